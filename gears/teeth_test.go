package gears_test

import (
	"math"
	"math/rand"
	"testing"

	"millrind/api"
	"millrind/gears"
)

// P7.1, W8 to W10: the chapter's examples.
func TestTeethExamples(t *testing.T) {
	m := mesh(12, 8, 100)
	want(t, "Hunting", must[bool](t, "Hunting")(gears.Hunting(m)), false)
	want(t, "Grips", must[int](t, "Grips")(gears.Grips(m)), 24)
	want(t, "Meets", must[int](t, "Meets")(gears.Meets(m, 5, 1)), 17)
	n, e := gears.Meets(m, 5, 2)
	wantBoth(t, "Meets", n, e, 0, api.ErrNone)
}

// meetings goes on step by step until both wheels stand as at first; each pair of teeth has the step at which it meets first.
func meetings(m api.Mesh) map[[2]int]int {
	first := map[[2]int]int{}
	for n := 0; ; n++ {
		pair := [2]int{n % m.Driver, n % m.Driven}
		if _, is := first[pair]; is {
			return first
		}
		first[pair] = n
	}
}

// P7.1, W8 to W10, P7.4: all small meshes, step by step.
func TestTeeth(t *testing.T) {
	for driver := 1; driver <= 14; driver++ {
		for driven := 1; driven <= 14; driven++ {
			m := mesh(driver, driven, driver)
			first := meetings(m)
			want(t, "Hunting", must[bool](t, "Hunting")(gears.Hunting(m)), len(first) == driver*driven)
			want(t, "Grips", must[int](t, "Grips")(gears.Grips(m)), len(first))
			for tooth := range driver {
				for cog := range driven {
					expected, is := first[[2]int{tooth, cog}]
					fault := api.OK
					if !is {
						fault = api.ErrNone
					}
					n, e := gears.Meets(m, tooth, cog)
					wantBoth(t, "Meets", n, e, expected, fault)
				}
			}
		}
	}
}

func divisor(a, b int) int {
	for d := min(a, b); ; d-- {
		if a%d == 0 && b%d == 0 {
			return d
		}
	}
}

// P7.4, P7.1, W8 to W10: wheels of any size: which teeth meet, when, and how many pairs.
func TestMeetings(t *testing.T) {
	rng := rand.New(rand.NewSource(4))
	for range 3000 {
		m := mesh(fromTo(rng, 1, api.MaxTeeth), fromTo(rng, 1, api.MaxTeeth), somePlay(rng))
		if rng.Intn(2) == 0 {
			m.Driver, m.Driven = 64*fromTo(rng, 1, 64), 48*fromTo(rng, 1, 85)
		}
		d := divisor(m.Driver, m.Driven)
		grips := must[int](t, "Grips")(gears.Grips(m))
		want(t, "Grips", grips, m.Driver*m.Driven/d)
		want(t, "Hunting", must[bool](t, "Hunting")(gears.Hunting(m)), grips == m.Driver*m.Driven)
		tooth, cog := rng.Intn(m.Driver), rng.Intn(m.Driven)
		n, e := gears.Meets(m, tooth, cog)
		if tooth%d != cog%d {
			wantBoth(t, "Meets", n, e, 0, api.ErrNone)
			continue
		}
		wantError(t, "Meets", e, api.OK)
		want(t, "the teeth that meet", [2]int{n % m.Driver, n % m.Driven}, [2]int{tooth, cog})
		want(t, "Meets is from 0 to less than Grips", 0 <= n && n < grips, true)
	}
}

// P7.4: Meets returns no error for just Grips pairs.
func TestPairsThatMeet(t *testing.T) {
	for _, m := range []api.Mesh{mesh(1, 1, 0), mesh(60, 96, 1), mesh(61, 97, 2), mesh(1, 4096, 3), mesh(4096, 3, 4), mesh(90, 90, 5)} {
		met := 0
		for tooth := range m.Driver {
			for cog := range m.Driven {
				if _, e := gears.Meets(m, tooth, cog); e == api.OK {
					met++
				}
			}
		}
		want(t, "pairs that meet", met, must[int](t, "Grips")(gears.Grips(m)))
	}
}

// P7.1, W8 to W10: the greatest wheels.
func TestGreatWheels(t *testing.T) {
	m := mesh(4096, 4095, 1000)
	want(t, "Grips", must[int](t, "Grips")(gears.Grips(m)), 4096*4095)
	want(t, "Meets", must[int](t, "Meets")(gears.Meets(m, 4095, 4094)), 4096*4095-1)
	want(t, "Meets", must[int](t, "Meets")(gears.Meets(mesh(4095, 4096, 0), 4094, 4095)), 4096*4095-1)
	want(t, "Meets", must[int](t, "Meets")(gears.Meets(m, 0, 1)), 4096*4095-4096*4094)
	want(t, "Meets of the same wheels", must[int](t, "Meets")(gears.Meets(mesh(4096, 4096, 0), 4095, 4095)), 4095)
	n, e := gears.Meets(mesh(4096, 4096, 0), 4095, 4094)
	wantBoth(t, "Meets of the same wheels", n, e, 0, api.ErrNone)
}

// wrongMeshes are meshes that are none.
func wrongMeshes() []api.Mesh {
	return []api.Mesh{
		{}, mesh(0, 8, 0), mesh(12, 0, 0), mesh(-1, 8, 0), mesh(12, -1, 0), mesh(4097, 8, 0), mesh(12, 4097, 0), mesh(12, 8, -1), mesh(12, 8, 1001),
		mesh(math.MinInt, 8, 0), mesh(12, math.MinInt, 0), mesh(12, 8, math.MinInt), mesh(math.MaxInt, 8, 0), mesh(12, math.MaxInt, 0), mesh(12, 8, math.MaxInt),
	}
}

// P7.1, Errors: a mesh that is none is ErrTrain, whatever the teeth are; then teeth that are none are ErrArg.
func TestMeshErrors(t *testing.T) {
	for _, m := range wrongMeshes() {
		is, e := gears.Hunting(m)
		wantBoth(t, "Hunting", is, e, false, api.ErrTrain)
		n, e := gears.Grips(m)
		wantBoth(t, "Grips", n, e, 0, api.ErrTrain)
		for _, tooth := range []int{0, -1, 4097, math.MaxInt} {
			n, e = gears.Meets(m, tooth, 0)
			wantBoth(t, "Meets", n, e, 0, api.ErrTrain)
		}
	}
	for _, x := range [][2]int{{12, 2}, {-1, 2}, {5, 8}, {5, -1}, {12, 8}, {math.MinInt, 1}, {5, math.MinInt}, {math.MaxInt, 1}, {5, math.MaxInt}} {
		n, e := gears.Meets(mesh(12, 8, 100), x[0], x[1])
		wantBoth(t, "Meets", n, e, 0, api.ErrArg)
	}
	for _, m := range []api.Mesh{mesh(1, 1, 0), mesh(4096, 4096, 1000)} {
		_, e := gears.Hunting(m)
		wantError(t, "Hunting", e, api.OK)
		n, e := gears.Meets(m, 0, 0)
		wantBoth(t, "Meets", n, e, 0, api.OK)
	}
}
