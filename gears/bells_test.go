package gears_test

import (
	"math"
	"math/rand"
	"slices"
	"testing"

	"millrind/api"
	"millrind/gears"
	"millrind/grain"
)

// hopper is the feed of the chapter's examples.
func hopper() api.Feed { return api.Feed{Hopper: 10, Draw: 4, Knocks: 2} }

func anyFeed(rng *rand.Rand) api.Feed {
	most := []int{1, 40, api.MaxGrains}[rng.Intn(3)]
	return api.Feed{Hopper: rng.Intn(most + 1), Draw: fromTo(rng, 1, most), Knocks: fromTo(rng, 1, min(most, api.MaxTeeth))}
}

// P7.1, W16 to W18: the chapter's examples.
func TestBellExamples(t *testing.T) {
	want(t, "Runs", must[api.Ratio](t, "Runs")(gears.Runs(example(), 8, 2)), ratio(15, 1))
	want(t, "Rings", must[int](t, "Rings")(gears.Rings(api.Bell{Mark: 3}, hopper())), 2)
	want(t, "Time", must[api.Ratio](t, "Time")(gears.Time(example(), hopper(), 2)), ratio(4, 15))
}

// P7.1, W17, P7.7: the bell rings behind the first knock that leaves less than Mark; with a greater Mark no later.
func TestRings(t *testing.T) {
	for draw := 1; draw <= 12; draw++ {
		for full := range 25 {
			f := api.Feed{Hopper: full, Draw: draw, Knocks: 1 + full}
			last := math.MaxInt
			for mark := 1; mark <= full+3; mark++ {
				n := must[int](t, "Rings")(gears.Rings(api.Bell{Mark: mark}, f))
				for knocks := range n + 1 {
					_, left, e := grain.Drawn(f, knocks)
					wantError(t, "Drawn", e, api.OK)
					want(t, "the hopper holds less than Mark", left < mark, knocks == n)
				}
				want(t, "no later", n <= last, true)
				last = n
			}
		}
	}
}

// P7.1, W17, P7.7: hoppers of any size.
func TestRingsOfGreatHoppers(t *testing.T) {
	rng := rand.New(rand.NewSource(7))
	for range 3000 {
		f := anyFeed(rng)
		mark := fromTo(rng, 1, f.Hopper+3)
		n := must[int](t, "Rings")(gears.Rings(api.Bell{Mark: mark}, f))
		_, left, _ := grain.Drawn(f, n)
		want(t, "less than Mark", left < mark, true)
		if n > 0 {
			_, left, _ = grain.Drawn(f, n-1)
			want(t, "at least Mark before", left >= mark, true)
		}
	}
	for _, x := range []struct{ mark, hopper, draw, want int }{
		{1, 0, 1, 0}, {1, 1000000, 1, 1000000}, {1000000, 1000000, 1, 1}, {1000001, 1000000, 1, 0}, {1, 1000000, 1000000, 1}, {2, 1000000, 999999, 1},
		{1, 1000000, 999999, 2}, {math.MaxInt, 1000000, 1000000, 0}, {math.MaxInt, 0, 1, 0},
	} {
		n, e := gears.Rings(api.Bell{Mark: x.mark}, api.Feed{Hopper: x.hopper, Draw: x.draw, Knocks: 4096})
		wantBoth(t, "Rings", n, e, x.want, api.OK)
	}
}

// modelRuns and modelTime are what the chapter's words say of a train whose ratio is not too large.
func modelRuns(x api.Train, turns, minutes int) (api.Ratio, api.Errno) {
	return modelSpeed(x, func() (api.Ratio, api.Errno) { return modelRatio(times(modelRatioOf(x), rat(turns, minutes))) })
}

func modelTime(x api.Train, f api.Feed, knocks int) (api.Ratio, api.Errno) {
	return modelSpeed(x, func() (api.Ratio, api.Errno) {
		y := modelRatioOf(x)
		return modelRatio(times(rat(knocks, f.Knocks), y.Inv(y)))
	})
}

func modelSpeed(x api.Train, speed func() (api.Ratio, api.Errno)) (api.Ratio, api.Errno) {
	if isLarge(modelRatioOf(x)) {
		return api.Ratio{}, api.ErrLimit
	}
	return speed()
}

// P7.1, W16, W18: trains of all kinds against reckoning without bounds.
func TestSpeeds(t *testing.T) {
	large := 0
	check := func(rng *rand.Rand, x api.Train) {
		f := anyFeed(rng)
		most := []int{10, 1000, api.MaxTurns}[rng.Intn(3)]
		for range 3 {
			n, minutes := rng.Intn(most+1), fromTo(rng, 1, most)
			r, e := gears.Runs(x, n, minutes)
			expected, fault := modelRuns(x, n, minutes)
			wantBoth(t, "Runs", r, e, expected, fault)
			r, e = gears.Time(x, f, n)
			expected, fault = modelTime(x, f, n)
			wantBoth(t, "Time", r, e, expected, fault)
			if _, f := gears.RatioOf(x); e == api.ErrLimit && f == api.OK {
				large++
			}
		}
	}
	eachTrain(500, smallTrain, check)
	eachTrain(1000, anyTrain, check)
	want(t, "some times are too large where the ratio is not", large > 10, true)
}

// P7.7: Time of the knocks of a turn of the runner, times RatioOf, is 1; of no knocks it is 0.
func TestTimeOfATurn(t *testing.T) {
	held := 0
	eachTrain(1000, anyTrain, func(rng *rand.Rand, x api.Train) {
		f := anyFeed(rng)
		r, e := gears.RatioOf(x)
		if e != api.OK {
			return
		}
		held++
		time := must[api.Ratio](t, "Time")(gears.Time(x, f, f.Knocks))
		want(t, "one turn of the runner", must[api.Ratio](t, "Times")(gears.Times(time, r)), ratio(1, 1))
		want(t, "no knocks", must[api.Ratio](t, "Time")(gears.Time(x, f, 0)), ratio(0, 1))
		want(t, "no turns", must[api.Ratio](t, "Runs")(gears.Runs(x, 0, 7)), ratio(0, 1))
		want(t, "a turn a minute", must[api.Ratio](t, "Runs")(gears.Runs(x, 1000000, 1000000)), r)
	})
	want(t, "many trains have been asked", held > 400, true)
}

// P7.1, W16, W18: a ratio that is too large is ErrLimit, also if the product is not; so is a product.
func TestSpeedLimits(t *testing.T) {
	up := trainOf(mesh(1000, 1, 0), mesh(1000, 1, 0), mesh(1000, 1, 0))
	higher := trainOf(mesh(1000, 1, 0), mesh(1000, 1, 0), mesh(1001, 1, 0))
	for _, x := range []struct {
		train          api.Train
		turns, minutes int
		want           api.Ratio
		e              api.Errno
	}{
		{up, 1, 1, ratio(1000000000, 1), api.OK},
		{up, 1000000, 1000000, ratio(1000000000, 1), api.OK},
		{up, 1, 1000000, ratio(1000, 1), api.OK},
		{up, 2, 1, api.Ratio{}, api.ErrLimit},
		{up, 0, 1, ratio(0, 1), api.OK},
		{higher, 1, 1, api.Ratio{}, api.ErrLimit},
		{higher, 1, 1000000, api.Ratio{}, api.ErrLimit},
		{higher, 0, 1, api.Ratio{}, api.ErrLimit},
	} {
		r, e := gears.Runs(x.train, x.turns, x.minutes)
		wantBoth(t, "Runs", r, e, x.want, x.e)
		r, e = gears.Time(turned(x.train), api.Feed{Draw: 1, Knocks: min(x.minutes, 4096)}, x.turns)
		if x.minutes <= 4096 {
			wantBoth(t, "Time", r, e, x.want, x.e)
		}
	}
	_, e := gears.Time(up, hopper(), 1000000)
	wantError(t, "Time", e, api.OK)
	_, e = gears.Time(up, api.Feed{Draw: 1, Knocks: 7}, 1)
	wantError(t, "Time", e, api.ErrLimit)
}

// wrongFeeds are feeds that are none.
func wrongFeeds() []api.Feed {
	return []api.Feed{
		{}, {Hopper: -1, Draw: 4, Knocks: 2}, {Hopper: 1000001, Draw: 4, Knocks: 2}, {Hopper: 10, Draw: 0, Knocks: 2}, {Hopper: 10, Draw: 1000001, Knocks: 2},
		{Hopper: 10, Draw: 4, Knocks: 0}, {Hopper: 10, Draw: 4, Knocks: 4097}, {Hopper: 10, Draw: -1, Knocks: 2}, {Hopper: 10, Draw: 4, Knocks: -1},
		{Hopper: math.MinInt, Draw: math.MinInt, Knocks: math.MinInt}, {Hopper: math.MaxInt, Draw: math.MaxInt, Knocks: math.MaxInt},
	}
}

// P7.1, Errors: of Runs, Rings and Time: ErrTrain, then ErrFeed, then ErrArg, then ErrLimit and ErrBell.
func TestBellErrors(t *testing.T) {
	limit := api.Train{Meshes: slices.Repeat([]api.Mesh{mesh(4096, 1, 0)}, 3)}
	wrong := []int{-1, 1000001, math.MinInt, math.MaxInt}
	for _, x := range wrongTrains() {
		r, e := gears.Runs(x, -1, 0)
		wantBoth(t, "Runs", r, e, api.Ratio{}, api.ErrTrain)
		for _, f := range []api.Feed{hopper(), {}} {
			r, e = gears.Time(x, f, -1)
			wantBoth(t, "Time", r, e, api.Ratio{}, api.ErrTrain)
		}
	}
	for _, f := range wrongFeeds() {
		for _, mark := range []int{1, 0, -1} {
			n, e := gears.Rings(api.Bell{Mark: mark}, f)
			wantBoth(t, "Rings", n, e, 0, api.ErrFeed)
		}
		for _, x := range []api.Train{example(), limit} {
			r, e := gears.Time(x, f, -1)
			wantBoth(t, "Time", r, e, api.Ratio{}, api.ErrFeed)
		}
		want(t, "grain does not know it either", grain.ValidFeed(f), false)
	}
	for _, n := range wrong {
		for _, x := range []api.Train{example(), limit} {
			r, e := gears.Time(x, hopper(), n)
			wantBoth(t, "Time", r, e, api.Ratio{}, api.ErrArg)
			r, e = gears.Runs(x, n, 1)
			wantBoth(t, "Runs", r, e, api.Ratio{}, api.ErrArg)
			r, e = gears.Runs(x, 1, n)
			wantBoth(t, "Runs", r, e, api.Ratio{}, api.ErrArg)
			r, e = gears.Runs(x, 1, 0)
			wantBoth(t, "Runs", r, e, api.Ratio{}, api.ErrArg)
		}
	}
	for _, mark := range []int{0, -1, math.MinInt} {
		n, e := gears.Rings(api.Bell{Mark: mark}, hopper())
		wantBoth(t, "Rings", n, e, 0, api.ErrBell)
	}
}

// P7.1: the least and the greatest feeds are feeds.
func TestValidFeeds(t *testing.T) {
	for _, f := range []api.Feed{{Hopper: 0, Draw: 1, Knocks: 1}, {Hopper: 1000000, Draw: 1000000, Knocks: 4096}} {
		n, e := gears.Rings(api.Bell{Mark: 1}, f)
		wantBoth(t, "Rings", n, e, min(f.Hopper, 1), api.OK)
		_, e = gears.Time(example(), f, 1000000)
		wantError(t, "Time", e, api.OK)
	}
}
