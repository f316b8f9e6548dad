package gears_test

import (
	"math"
	"math/rand"
	"slices"
	"testing"

	"millrind/api"
	"millrind/crossing"
	"millrind/gears"
)

// upTo returns the numbers below n.
func upTo(n int) []int {
	var list []int
	for i := range n {
		list = append(list, i)
	}
	return list
}

func all(t *testing.T, x api.Train, sectors int) []int {
	t.Helper()
	return must[[]int](t, "All")(gears.All(x, sectors))
}

// P7.1, W13 to W15: the chapter's examples; at first the runner may lag behind 0.
func TestPlayExamples(t *testing.T) {
	x := example()
	want(t, "Play", must[api.Ratio](t, "Play")(gears.Play(x)), ratio(1, 32))
	want(t, "Where", where(t, x, 32, 4), api.Span{Lo: 39, Hi: 40})
	want(t, "Where at first", where(t, x, 32, 0), api.Span{Lo: -1, Hi: 0})
	wantList(t, "All", all(t, x, 32), upTo(32))
	x.Meshes[0].Play = 0
	want(t, "Play", must[api.Ratio](t, "Play")(gears.Play(x)), ratio(0, 1))
	wantList(t, "All", all(t, x, 32), []int{0, 2, 4, 6, 8, 10, 12, 14, 16, 18, 20, 22, 24, 26, 28, 30})
	wantList(t, "All", all(t, x, 6), upTo(6))
	wantList(t, "All of a whole turn a tooth", all(t, trainOf(mesh(5, 1, 0)), 7), []int{0})
	wantList(t, "All of a whole turn a tooth, with play", all(t, trainOf(mesh(5, 1, 1)), 7), []int{0, 6})
	wantList(t, "All of three parts of a turn", all(t, trainOf(mesh(1, 3, 0)), 10), []int{0, 3, 6})
	wantList(t, "All of three parts of a turn, with play", all(t, trainOf(mesh(1, 3, 200)), 10), []int{0, 2, 3, 6, 9})
	wantList(t, "All of three parts of a turn, with a hair more play", all(t, trainOf(mesh(1, 3, 201)), 10), []int{0, 2, 3, 5, 6, 9})
}

// P7.1, W13: play is carried by the meshes that follow; each step may be too large.
func TestPlay(t *testing.T) {
	for _, x := range []struct {
		train api.Train
		want  api.Ratio
		e     api.Errno
	}{
		{trainOf(mesh(4096, 1, 0)), ratio(0, 1), api.OK},
		{trainOf(mesh(7, 5, 1)), ratio(1, 5000), api.OK},
		{trainOf(mesh(7, 5, 1000)), ratio(1, 5), api.OK},
		{trainOf(mesh(7, 5, 1000), mesh(3, 4, 0)), ratio(3, 20), api.OK},
		{trainOf(mesh(7, 5, 0), mesh(3, 4, 500)), ratio(1, 8), api.OK},
		{trainOf(mesh(7, 5, 1000), mesh(3, 4, 500)), ratio(11, 40), api.OK},
		{trainOf(mesh(1, 1, 1000), mesh(1000, 1, 0), mesh(1000, 1, 0), mesh(1000, 1, 0)), ratio(1000000000, 1), api.OK},
		{trainOf(mesh(1, 1, 1000), mesh(1000, 1, 0), mesh(1000, 1, 0), mesh(1000, 1, 1)), api.Ratio{}, api.ErrLimit},
		{trainOf(mesh(1, 1, 1000), mesh(1000, 1, 0), mesh(1000, 1, 0), mesh(1000, 1, 1000)), api.Ratio{}, api.ErrLimit},
		{trainOf(mesh(1, 1, 1000), mesh(1000, 1, 0), mesh(1000, 1, 0), mesh(1001, 1, 0)), api.Ratio{}, api.ErrLimit},
		{trainOf(mesh(1, 1, 1000), mesh(1000, 1, 0), mesh(1000, 1, 0), mesh(1001, 1, 0), mesh(1, 1001, 0)), api.Ratio{}, api.ErrLimit},
		{trainOf(mesh(1, 1, 0), mesh(1000, 1, 0), mesh(1000, 1, 0), mesh(1001, 1, 0)), ratio(0, 1), api.OK},
		{trainOf(mesh(1, 1, 0), mesh(1000, 1, 0), mesh(1000, 1, 0), mesh(1001, 1, 1000)), ratio(1, 1), api.OK},
		{trainOf(mesh(1, 4093, 999), mesh(1, 4091, 999)), api.Ratio{}, api.ErrLimit},
		{trainOf(mesh(1, 2, 1), mesh(1, 500, 0), mesh(1, 1000, 0)), ratio(1, 1000000000), api.OK},
		{trainOf(mesh(1, 2, 1), mesh(1, 500, 0), mesh(1, 1001, 0)), api.Ratio{}, api.ErrLimit},
	} {
		p, e := gears.Play(x.train)
		wantBoth(t, "Play", p, e, x.want, x.e)
	}
	eachTrain(3000, anyTrain, func(rng *rand.Rand, x api.Train) {
		p, e := gears.Play(x)
		play, fault := modelPlay(x)
		wantError(t, "Play", e, fault)
		if fault == api.OK {
			want(t, "Play", ratOf(p).Cmp(play), 0)
			want(t, "Play is a ratio", gears.ValidRatio(p), true)
		}
	})
}

// P7.1, W13: a product that is too large is ErrLimit, also if the sum behind it would not be.
func TestPlayOfLargeProducts(t *testing.T) {
	x := trainOf(mesh(1, 1024, 1), mesh(1, 3125, 1))
	carried := times(rat(1, 1000*1024), rat(1, 3125))
	want(t, "the product is too large", isLarge(carried), true)
	want(t, "the sum is not", isLarge(plus(carried, rat(1, 1000*3125))), false)
	p, e := gears.Play(x)
	wantBoth(t, "Play", p, e, api.Ratio{}, api.ErrLimit)
}

// P7.1, W14: trains of all kinds against reckoning without bounds.
func TestWhere(t *testing.T) {
	held := 0
	check := func(rng *rand.Rand, x api.Train) {
		turns := modelTurns(x)[len(x.Meshes)]
		play, e := modelPlay(x)
		for _, teeth := range []int{0, 1, rng.Intn(100), rng.Intn(api.MaxTurns), 1000000} {
			sectors := fromTo(rng, 2, api.MaxSectors)
			got, f := gears.Where(x, sectors, teeth)
			if e != api.OK || isLarge(turns) {
				wantBoth(t, "Where", got, f, api.Span{}, api.ErrLimit)
				continue
			}
			held++
			wantBoth(t, "Where", got, f, modelWhere(times(rat(teeth, 1), turns), play, sectors), api.OK)
		}
	}
	eachTrain(500, smallTrain, check)
	eachTrain(3000, anyTrain, check)
	want(t, "many trains have been asked", held > 3000, true)
}

// P7.1, W14: where whole sectors begin and end, by a hair.
func TestWhereAtTheEdges(t *testing.T) {
	for _, x := range []struct {
		train          api.Train
		sectors, teeth int
		want           api.Span
	}{
		{trainOf(mesh(1, 4, 0)), 4, 3, api.Span{Lo: 3, Hi: 3}},
		{trainOf(mesh(1, 4, 1)), 4, 3, api.Span{Lo: 2, Hi: 3}},
		{trainOf(mesh(1, 4, 1000)), 4, 3, api.Span{Lo: 2, Hi: 3}},
		{trainOf(mesh(1, 8, 999)), 4, 3, api.Span{Lo: 1, Hi: 1}},
		{trainOf(mesh(1, 8, 1000)), 4, 3, api.Span{Lo: 1, Hi: 1}},
		{trainOf(mesh(1, 8, 1000), mesh(1, 1, 1)), 4, 3, api.Span{Lo: 0, Hi: 1}},
		{trainOf(mesh(1, 8, 0)), 4, 0, api.Span{Lo: 0, Hi: 0}},
		{trainOf(mesh(1, 8, 1)), 4, 0, api.Span{Lo: -1, Hi: 0}},
		{trainOf(mesh(1, 1, 1000)), 96, 0, api.Span{Lo: -96, Hi: 0}},
		{trainOf(mesh(1, 1, 1000), mesh(2, 1, 1000)), 2, 0, api.Span{Lo: -6, Hi: 0}},
		{trainOf(mesh(1, 1, 1), mesh(2, 1, 0)), 3, 1, api.Span{Lo: 5, Hi: 6}},
	} {
		want(t, "Where", where(t, x.train, x.sectors, x.teeth), x.want)
	}
}

// P7.1, W14: the greatest numbers that may be, and the finest parts.
func TestWhereFarOut(t *testing.T) {
	great := trainOf(mesh(1000, 1, 1000), mesh(1000, 1, 1000), mesh(1000, 1, 1000), mesh(999, 1, 0))
	want(t, "a great play", must[api.Ratio](t, "Play")(gears.Play(great)), ratio(999999999, 1))
	fine := trainOf(mesh(1, 4096, 1000), mesh(1, 4095, 0), mesh(1, 59, 1000))
	want(t, "a fine play", must[api.Ratio](t, "Play")(gears.Play(fine)).Den > 900000000, true)
	mixed := trainOf(mesh(3, 4093, 1), mesh(1, 61, 7), mesh(59, 4, 0))
	for _, x := range []api.Train{great, fine, mixed} {
		turns := modelTurns(x)[len(x.Meshes)]
		play, e := modelPlay(x)
		wantError(t, "the model's play", e, api.OK)
		for _, sectors := range []int{2, 95, 96} {
			for _, teeth := range []int{0, 1, 999983, 1000000} {
				want(t, "Where", where(t, x, sectors, teeth), modelWhere(times(rat(teeth, 1), turns), play, sectors))
			}
		}
	}
	want(t, "far out", where(t, great, 96, 1000000), api.Span{Lo: 999000000*96000000 - 999999999*96, Hi: 999000000 * 96000000})
}

// P7.1, W15, P7.6: small trains, gone through for a period: All has just the numbers of Where.
func TestAll(t *testing.T) {
	held := 0
	eachTrain(400, smallTrain, func(rng *rand.Rand, x api.Train) {
		period := must[int](t, "Period")(gears.Period(x))
		for range 2 {
			sectors := fromTo(rng, 2, api.MaxSectors)
			got := all(t, x, sectors)
			wantList(t, "All", got, modelAll(x, sectors, period))
			if len(got) < sectors {
				held++
			}
		}
	})
	want(t, "many runners never stand at some sectors", held > 100, true)
}

// P7.1, W15: as many parts of a turn as sectors, or more, lead to all; a turn of play does, too; whatever the turns are.
func TestAllOfManyParts(t *testing.T) {
	for sectors := 2; sectors <= api.MaxSectors; sectors++ {
		wantList(t, "just enough parts", all(t, trainOf(mesh(1, sectors, 0)), sectors), upTo(sectors))
		wantList(t, "more parts", all(t, trainOf(mesh(7, sectors+1, 0)), sectors), upTo(sectors))
		wantList(t, "a billion parts", all(t, chain(1, 1000, 1000, 1000), sectors), upTo(sectors))
		wantList(t, "the finest parts", all(t, trainOf(mesh(1, 1000, 0), mesh(1, 1000, 0), mesh(1, 1000, 0)), sectors), upTo(sectors))
		want(t, "too few parts", len(all(t, trainOf(mesh(5, sectors-1, 0)), sectors)), sectors-1)
		wantList(t, "a turn of play", all(t, trainOf(mesh(5, 1, 1000)), sectors), upTo(sectors))
		wantList(t, "half a turn of play", all(t, trainOf(mesh(5, 1, 500)), sectors)[1:], upTo(sectors)[sectors/2:])
	}
	great := trainOf(mesh(1, 1, 1000), mesh(1000, 1, 0), mesh(1000, 1, 0), mesh(1000, 1, 0))
	wantList(t, "a billion turns of play", all(t, great, 96), upTo(96))
}

// P7.6: Where has a number, more with more play, and one without any.
func TestMorePlay(t *testing.T) {
	check := func(rng *rand.Rand, x api.Train) {
		sectors, teeth := fromTo(rng, 2, api.MaxSectors), rng.Intn(1000)
		less, e := gears.Where(x, sectors, teeth)
		few, _ := gears.All(x, sectors)
		i := rng.Intn(len(x.Meshes))
		x.Meshes[i].Play = fromTo(rng, x.Meshes[i].Play, api.MaxPlay)
		more, f := gears.Where(x, sectors, teeth)
		many, _ := gears.All(x, sectors)
		if e != api.OK || f != api.OK {
			return
		}
		want(t, "Where has a number", less.Lo <= less.Hi, true)
		want(t, "with more play it has them all", more.Lo <= less.Lo && more.Hi == less.Hi, true)
		for _, n := range few {
			want(t, "so has All", slices.Contains(many, n), true)
		}
		for i := range x.Meshes {
			x.Meshes[i].Play = 0
		}
		stiff := where(t, x, sectors, teeth)
		want(t, "without play", stiff, api.Span{Lo: less.Hi, Hi: less.Hi})
	}
	eachTrain(500, smallTrain, check)
	eachTrain(1000, anyTrain, check)
}

// P7.6: all numbers of Where are in All; after Period teeth more they are greater by whole turns.
func TestWhereAndAll(t *testing.T) {
	held := 0
	check := func(rng *rand.Rand, x api.Train) {
		sectors, teeth := fromTo(rng, 2, api.MaxSectors), rng.Intn(1000)
		span, e := gears.Where(x, sectors, teeth)
		if e != api.OK {
			return
		}
		list := all(t, x, sectors)
		for n := span.Lo; n <= min(span.Hi, span.Lo+sectors); n++ {
			want(t, "it is in All", slices.Contains(list, (n%sectors+sectors)%sectors), true)
		}
		period, e := gears.Period(x)
		if e != api.OK || teeth+period > api.MaxTurns {
			return
		}
		held++
		later := where(t, x, sectors, teeth+period)
		want(t, "both ends go on as far", later.Hi-span.Hi, later.Lo-span.Lo)
		want(t, "by whole turns", (later.Hi-span.Hi)%sectors == 0 && later.Hi > span.Hi, true)
	}
	eachTrain(500, smallTrain, check)
	eachTrain(1000, anyTrain, check)
	want(t, "many periods have been asked", held > 400, true)
}

// course returns how many steps a grain takes at most until it leaves, and how often it is cut at least, whatever moves are taken.
func course(t *testing.T, p api.Pair, s api.State) (steps, cuts int) {
	t.Helper()
	cuts = math.MaxInt
	for _, m := range must[[]api.Move](t, "Moves")(crossing.Moves(p, s)) {
		n, c := 1, 0
		if m.Cut {
			c = 1
		}
		to, out, e := crossing.Next(p, s, m)
		wantError(t, "Next", e, api.OK)
		if !out {
			further, more := course(t, p, to)
			n, c = n+further, c+more
		}
		steps, cuts = max(steps, n), min(cuts, c)
	}
	return steps, cuts
}

// P0.3, as far as gears go: wherever gears let the runner stand, each grain that comes in leaves after as many steps as the rank table says, cut as often as the cut table says.
func TestGrainsLeaveWhereGearsAllow(t *testing.T) {
	face := api.Face{Eye: 1, Rings: 3, Sectors: 6, Kinds: slices.Repeat([]int{0, 1, 2}, 6)}
	pair := api.Pair{Bed: face, Runner: face, Drive: slices.Repeat([][]api.Move{{{Out: 1}, {Out: 1, Side: 1, Cut: true}}}, 9)}
	pair.Drive[0] = []api.Move{{Out: 1, Cut: true}}
	pair.Drive[4] = []api.Move{{Side: 1}, {Out: 1, Side: -1}}
	rank, least := must[[]int](t, "Rank")(crossing.Rank(pair)), must[[]int](t, "LeastCuts")(crossing.LeastCuts(pair))
	for _, play := range []int{0, 100, 1000} {
		list := all(t, trainOf(mesh(5, 3, play)), face.Sectors)
		want(t, "without play the runner stands at each other sector", len(list), []int{3, 6}[min(play, 1)])
		for _, turn := range list {
			for sector := range face.Sectors {
				s := api.State{Sector: sector, Turn: turn}
				i := must[int](t, "Number")(crossing.Number(pair, s))
				steps, cuts := course(t, pair, s)
				want(t, "it leaves, and is cut", steps <= rank[i] && cuts >= least[i], true)
			}
		}
	}
}

// P7.1, Errors: of Play, Where and All: ErrTrain, then ErrArg, then ErrLimit.
func TestPlayErrors(t *testing.T) {
	for _, x := range wrongTrains() {
		p, e := gears.Play(x)
		wantBoth(t, "Play", p, e, api.Ratio{}, api.ErrTrain)
		wantWhere(t, x, 32, 4, api.ErrTrain)
		wantWhere(t, x, 1, -1, api.ErrTrain)
	}
	for _, x := range []api.Train{example(), chain(4096, 1, 4095), {Meshes: slices.Repeat([]api.Mesh{mesh(4096, 1, 1)}, 4)}} {
		for _, sectors := range []int{1, 0, -1, 97, math.MinInt, math.MaxInt} {
			wantWhere(t, x, sectors, 4, api.ErrArg)
			wantWhere(t, x, sectors, -4, api.ErrArg)
		}
		for _, teeth := range []int{-1, 1000001, math.MinInt, math.MaxInt} {
			s, e := gears.Where(x, 32, teeth)
			wantBoth(t, "Where", s, e, api.Span{}, api.ErrArg)
		}
	}
	for _, sectors := range []int{2, 96} {
		wantWhere(t, example(), sectors, 0, api.OK)
		wantWhere(t, example(), sectors, 1000000, api.OK)
	}
}

// wantWhere checks the error of Where and All, and that they have nothing else with it.
func wantWhere(t *testing.T, x api.Train, sectors, teeth int, fault api.Errno) {
	t.Helper()
	s, e := gears.Where(x, sectors, teeth)
	wantError(t, "Where", e, fault)
	list, e := gears.All(x, sectors)
	wantError(t, "All", e, fault)
	if fault != api.OK {
		want(t, "Where with an error", s, api.Span{})
		want(t, "All with an error", len(list), 0)
	}
}

// P7.1, W14, W15: turns of the last shaft or a play that are too large are ErrLimit; turns of other shafts may be.
func TestPlayLimits(t *testing.T) {
	up, down := mesh(1000, 1, 0), mesh(1, 1000, 0)
	wantWhere(t, trainOf(mesh(1, 1, 0), up, up, up), 96, 1000000, api.OK)
	wantWhere(t, trainOf(mesh(1, 1, 0), up, up, mesh(1001, 1, 0)), 2, 0, api.ErrLimit)
	wantWhere(t, trainOf(mesh(1, 1, 0), up, up, mesh(1001, 1, 0), mesh(1, 1001, 0)), 2, 0, api.OK)
	wantWhere(t, trainOf(down, down, down), 96, 1000000, api.OK)
	wantWhere(t, trainOf(down, down, mesh(1, 1001, 0)), 2, 0, api.ErrLimit)
	wantWhere(t, trainOf(down, down, mesh(1, 1001, 0), mesh(1001, 1, 0)), 2, 0, api.OK)
	wantWhere(t, trainOf(mesh(1, 2, 1), mesh(1, 500, 0), mesh(1, 1001, 0)), 2, 0, api.ErrLimit)
	x := trainOf(down, down, mesh(1, 1001, 0), mesh(1001, 1, 0))
	want(t, "Where", where(t, x, 96, 1000000), api.Span{Lo: 96, Hi: 96})
	_, e := gears.Stands(x, 0)
	wantError(t, "Stands", e, api.ErrLimit)
}
