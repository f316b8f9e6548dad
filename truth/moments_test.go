package truth_test

import (
	"math/rand"
	"slices"
	"testing"

	"millrind/api"
	"millrind/truth"
)

// P6.1, T2 to T5: the examples of the chapter.
func TestExampleMoments(t *testing.T) {
	s := example(3)
	wantError(t, "Check", truth.Check(s), api.OK)
	want(t, "Mass", must[int](t, "Mass")(truth.Mass(s, 0)), 9)
	want(t, "Moment", must[api.Point](t, "Moment")(truth.Moment(s)), api.Point{X: 12})
	want(t, "With", must[api.Point](t, "With")(truth.With(s, []int{1, 0})), api.Point{X: 6})
	want(t, "Balanced", must[bool](t, "Balanced")(truth.Balanced(s, []int{2, 0})), true)
	want(t, "Balanced without lead", must[bool](t, "Balanced")(truth.Balanced(s, []int{0, 0})), false)
}

// P6.1, T2, T3: each ring has its own weight and lever, and each sector its direction; heights may be below 0.
func TestMomentsOfRings(t *testing.T) {
	s := api.Stone{
		Face:    api.Face{Eye: 2, Rings: 3, Sectors: 2, Kinds: []int{0, 1, 2, 0, 1, 2}},
		Heights: []int{1, 0, 0, -2, 10, 100},
		Compass: []api.Point{{X: 1, Y: -3}, {X: 5, Y: 7}},
	}
	for cell, mass := range []int{5, 0, 0, -14, 90, 900} {
		want(t, "Mass", must[int](t, "Mass")(truth.Mass(s, cell)), mass)
	}
	x, y := 5*3*1-14*4*5+90*5*1+900*5*5, 5*3*-3-14*4*7+90*5*-3+900*5*7
	want(t, "Moment", must[api.Point](t, "Moment")(truth.Moment(s)), api.Point{X: x, Y: y})
	want(t, "With no pockets", must[api.Point](t, "With")(truth.With(s, nil)), api.Point{X: x, Y: y})
}

// P6.1, T5: a moment of Tol is balanced in each of the four directions, and one beyond it is not.
func TestBalancedAtTol(t *testing.T) {
	for _, x := range []struct{ x, y int }{{2, 0}, {-2, 0}, {0, 2}, {0, -2}, {2, 2}, {-2, 2}, {2, -2}, {-2, -2}} {
		for tol, is := range map[int]bool{12: true, 11: false} {
			s := heavy(x.x, x.y, tol)
			want(t, "Balanced", must[bool](t, "Balanced")(truth.Balanced(s, nil)), is)
			want(t, "Count", must[int](t, "Count")(truth.Count(s)) == 1, is)
		}
	}
}

// P6.1, P6.2, P6.5, T2, T3, T4, T5: moments with and without lead are as the chapter's words say.
func TestMomentsOfSmallStones(t *testing.T) {
	eachSmallStone(300, func(_ *rand.Rand, s api.Stone) {
		want(t, "Moment", must[api.Point](t, "Moment")(truth.Moment(s)), modelMoment(s, nil))
		for _, l := range leadsOf(s) {
			want(t, "With", must[api.Point](t, "With")(truth.With(s, l)), modelMoment(s, l))
			want(t, "Balanced", must[bool](t, "Balanced")(truth.Balanced(s, l)), modelBalances(s, l))
		}
	})
}

// P6.1, R5: the greatest moment that a stone may have without lead, and with the most lead.
func TestGreatestMoment(t *testing.T) {
	f := api.Face{Eye: 16, Rings: 24, Sectors: 96, Kinds: make([]int, 24*96)}
	s := api.Stone{
		Face:    f,
		Heights: slices.Repeat([]int{-100000}, 24*96),
		Compass: slices.Repeat([]api.Point{{X: 1000, Y: -1000}}, 96),
		Pockets: slices.Repeat([]api.Pocket{pocket(-1000000, 1000000, 255)}, 8),
		Tol:     1000000000000,
	}
	n := 0
	for ring := range 24 {
		n += 96 * (2*(16+ring) + 1) * 100000 * (16 + ring + 1) * 1000
	}
	want(t, "Mass", must[int](t, "Mass")(truth.Mass(s, 24*96-1)), -7900000)
	want(t, "Moment", must[api.Point](t, "Moment")(truth.Moment(s)), api.Point{X: -n, Y: n})
	most := 8 * 255 * 1000000
	want(t, "With", must[api.Point](t, "With")(truth.With(s, slices.Repeat([]int{255}, 8))), api.Point{X: -n - most, Y: n + most})
	want(t, "Reach", must[api.Span](t, "Reach")(truth.Reach(s, api.Point{X: -100, Y: 100})), api.Span{Lo: 200 * n, Hi: 200 * (n + most)})
	want(t, "Apart", must[api.Point](t, "Apart")(truth.Apart(s)), api.Point{X: -1})
}

// P6.5: moments add up as heights do; a stone of one height, with a compass whose sum is 0, has none.
func TestMomentsAddUp(t *testing.T) {
	eachSmallStone(200, func(rng *rand.Rand, s api.Stone) {
		more, both := s, s
		more.Heights, both.Heights = slices.Clone(s.Heights), slices.Clone(s.Heights)
		for i := range s.Heights {
			more.Heights[i] = around(rng, 50000)
			both.Heights[i] += more.Heights[i]
		}
		a, b := must[api.Point](t, "Moment")(truth.Moment(s)), must[api.Point](t, "Moment")(truth.Moment(more))
		want(t, "Moment of both", must[api.Point](t, "Moment")(truth.Moment(both)), api.Point{X: a.X + b.X, Y: a.Y + b.Y})
		last := &both.Compass[len(both.Compass)-1]
		*last = api.Point{}
		sum := api.Point{}
		for _, p := range both.Compass {
			sum = api.Point{X: sum.X + p.X, Y: sum.Y + p.Y}
		}
		*last = api.Point{X: -sum.X, Y: -sum.Y}
		for i := range both.Heights {
			both.Heights[i] = 12345
		}
		want(t, "Moment of one height", must[api.Point](t, "Moment")(truth.Moment(both)), api.Point{})
	})
}
