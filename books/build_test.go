package books_test

import (
	"math/rand"
	"slices"
	"testing"

	"millrind/api"
	"millrind/books"
	"millrind/crossing"
	"millrind/dressing"
	"millrind/history"
	"millrind/truth"
	"millrind/wear"
)

// P10.1, B5, the chapter's example 4: a side of one world.
func TestExampleBook(t *testing.T) {
	x := build(t, aBase(), known())
	want(t, "the base", x.Base, aBase())
	want(t, "Rank", x.Rank, []int{1, 1, 1, 1})
	want(t, "Least", x.Least, []int{1, 1, 1, 1})
	side := x.Sides[0]
	want(t, "Worlds", side.Worlds, []api.World{{Lowest: [][]int{{11, 10}}, Highest: [][]int{{12, 10}}}})
	want(t, "Loops", len(side.Loops), 0)
	want(t, "the proof of 11", side.Told[0].Low, []api.Case{{Path: []api.Bound{{To: -1, Most: -11, Kind: api.BoundReading}}}})
	want(t, "the proof of 12", side.Told[0].High, []api.Case{{Path: []api.Bound{{From: -1, Most: 12, Kind: api.BoundStart}}}})
	told := side.Told[0]
	told.Low, told.High = nil, nil
	want(t, "Told", told, api.Told{Height: span(11, 12)})
	want(t, "Lines", []any{x.Lines[0].Plan, x.Lines[1].Plan}, []any{[]int{2, 0}, []int{2, 0}})
	want(t, "Shifts and Work", []any{x.Shifts, x.Work, x.Cut}, []any{2, [][]int{{2, 2}}, []int{0, 1}})
	want(t, "Weights and Lead", []any{x.Weights, x.Lead, x.Tree}, []any{[]int{10, 10}, []int{0}, api.Tree{Kind: api.TreeSum}})
	want(t, "Trouble", x.Trouble, api.OK)
	wantFaults(t, "Check", x)
}

// P10.1, B5: LowIn and HighIn are the first worlds in which the ends occur; worlds that do not live are left out.
func TestWorldsOfBook(t *testing.T) {
	side := build(t, aBase(), passed()).Sides[1]
	want(t, "the worlds", []any{len(side.Worlds), side.Worlds[0].Hard, side.Worlds[1].Hard, side.Worlds[2].Hard}, []any{3, []int{1}, []int{2}, []int{3}})
	for i, told := range []api.Told{{Cell: 0, Height: span(4, 9), LowIn: 2}, {Cell: 1, Height: span(4, 8), LowIn: 2}} {
		got := side.Told[i]
		got.Low, got.High = nil, nil
		want(t, "Told", got, told)
	}
	r := passed()
	r.Events = append(r.Events, reading(5, 1, 1, -1, 4, 6))
	side = build(t, aBase(), r).Sides[1]
	want(t, "the worlds left", []any{len(side.Worlds), side.Worlds[0].Hard, side.Worlds[1].Hard}, []any{2, []int{2}, []int{3}})
	want(t, "what is told", []any{side.Told[1].Height, side.Told[1].LowIn, side.Told[1].HighIn}, []any{span(4, 6), 1, 0})
	want(t, "the proof of the first world", side.Told[1].Low[0].Loop, true)
}

// P10.1, B5: a height may be greater in a harder world: cell 1, which is not cut, was not above cell 0, of which we know how high it is behind a pass.
func TestHigherInHarderWorlds(t *testing.T) {
	b := withBase(func(b *api.Base) {
		b.Pair.Bed.Kinds[1] = api.Steep
		b.Start[0] = []api.Span{span(0, 100), span(0, 100)}
	})
	r := done(reading(2, 0, 1, 0, -100, 0), pass(3, 1, 1), reading(4, 0, 0, -1, 0, 10))
	r.Heaps = []api.Event{heap(1, 1, 3)}
	x := build(t, b, r)
	told := x.Sides[0].Told[1]
	want(t, "what is told", []any{told.Height, told.LowIn, told.HighIn}, []any{span(0, 16), 0, 2})
	wantFaults(t, "Check", x)
	x.Sides[0].Told[1].HighIn = 0
	wantFaults(t, "the first world", x, fault(api.FaultTold, 1))
}

// modelTrouble is the first trouble of the table that applies.
func modelTrouble(x api.Book) api.Errno {
	if len(x.Sides[0].Worlds) == 0 || len(x.Sides[1].Worlds) == 0 {
		return api.ErrClash
	}
	for i, line := range x.Lines {
		reached := slices.ContainsFunc(x.Base.Crew.Reach, func(l []int) bool { return slices.Contains(l, i) })
		if !reached && slices.ContainsFunc(line.Plan, func(n int) bool { return n > 0 }) {
			return api.ErrReach
		}
	}
	s, e := history.StoneOf(x.Base, x.Weights)
	if e != api.OK {
		return api.ErrStone
	}
	if _, e := truth.Least(s); e != api.OK {
		return api.ErrBalance
	}
	return api.OK
}

// wantSide holds a side against what the layer below says of its story.
func wantSide(t *testing.T, side api.Side) {
	t.Helper()
	s, last := side.Story, len(side.Story.Steps)
	living, e := wear.Living(s)
	want(t, "worlds", len(side.Worlds), len(living))
	if e == api.ErrClash {
		worlds := must[[][]int](t, "Worlds")(wear.Worlds(s))
		want(t, "Told", len(side.Told), 0)
		want(t, "Loops", len(side.Loops), len(worlds))
		for i, x := range side.Loops {
			want(t, "the world of a loop", []any{x.World, x.Loop}, []any{worlds[i], true})
			want(t, "a loop", must[bool](t, "CheckLoop")(wear.CheckLoop(s, x.World, x.Path)), true)
		}
		return
	}
	want(t, "Loops", len(side.Loops), 0)
	var lows, highs [][]int
	for i, w := range side.Worlds {
		want(t, "Hard", w.Hard, living[i])
		want(t, "Lowest", w.Lowest, must[[][]int](t, "Lowest")(wear.Lowest(s, w.Hard)))
		want(t, "Highest", w.Highest, must[[][]int](t, "Highest")(wear.Highest(s, w.Hard)))
		lows, highs = append(lows, w.Lowest[last]), append(highs, w.Highest[last])
	}
	want(t, "Told", len(side.Told), len(s.Start))
	for cell, told := range side.Told {
		want(t, "Cell", told.Cell, cell)
		want(t, "Height", told.Height, must[api.Span](t, "Height")(wear.Height(s, last, cell)))
		want(t, "Low", must[int](t, "Low")(wear.CheckCases(s, last, cell, false, told.Low)), told.Height.Lo)
		want(t, "High", must[int](t, "High")(wear.CheckCases(s, last, cell, true, told.High)), told.Height.Hi)
		want(t, "LowIn", told.LowIn, slices.IndexFunc(lows, func(l []int) bool { return l[cell] == told.Height.Lo }))
		want(t, "HighIn", told.HighIn, slices.IndexFunc(highs, func(l []int) bool { return l[cell] == told.Height.Hi }))
	}
}

// wantLine holds a line against what the chapter says of the heights told.
func wantLine(t *testing.T, line, expected api.Line) {
	t.Helper()
	plan, e := dressing.Plan(expected.Task)
	switch expected.State {
	case api.LineWork:
		want(t, "Plan", []any{line.Plan, api.OK}, []any{plan, e})
		total := must[int](t, "Total")(dressing.Total(plan))
		want(t, "Prices", must[int](t, "Prices")(dressing.CheckPrices(expected.Task, line.Prices)), total)
	case api.LineNever:
		want(t, "no Plan", len(line.Plan), 0)
		want(t, "Prices", dressing.CheckNever(expected.Task, line.Prices), api.OK)
	case api.LineVague:
		want(t, "no Plan, and no Prices", []any{line.Plan, line.Prices}, []any{[]int{}, api.Prices{}})
	}
	line.Plan, line.Prices = nil, api.Prices{}
	want(t, "a line", line, expected)
}

// wantWork holds shifts, weights and lead against what the chapter says of the lines and of what is told.
func wantWork(t *testing.T, x api.Book) {
	t.Helper()
	var loads, least []int
	for _, line := range x.Lines {
		loads = append(loads, must[int](t, "Total")(dressing.Total(line.Plan)))
	}
	for _, told := range x.Sides[1].Told {
		least = append(least, told.Height.Lo)
	}
	want(t, "Weights", x.Weights, least)
	if x.Trouble == api.ErrReach {
		want(t, "no shifts", []any{x.Shifts, x.Work, x.Cut}, []any{0, [][]int{}, []int{}})
	} else {
		want(t, "Shifts", x.Shifts, must[int](t, "Shifts")(dressing.Shifts(x.Base.Crew, loads)))
		want(t, "Work", dressing.CheckWork(x.Base.Crew, loads, x.Shifts, x.Work), api.OK)
		want(t, "Cut", must[int](t, "CheckCut")(dressing.CheckCut(x.Base.Crew, loads, x.Cut)), x.Shifts)
		want(t, "a cut of no shifts", x.Shifts == 0 && len(x.Cut) > 0, false)
	}
	s, e := history.StoneOf(x.Base, x.Weights)
	if e != api.OK {
		want(t, "no lead", []any{x.Lead, x.Tree}, []any{[]int{}, api.Tree{}})
		return
	}
	lead, e := truth.Lead(s)
	want(t, "Lead", x.Lead, lead)
	sum := 0
	for i, n := range lead {
		sum += n
		want(t, "what a pocket holds", n <= x.Base.Pockets[i].Most, true)
	}
	if e == api.ErrBalance {
		sum = 1
		for _, p := range x.Base.Pockets {
			sum += p.Most
		}
	}
	e, _ = truth.CheckTree(s, sum, x.Tree)
	want(t, "Tree", e, api.OK)
}

// P10.1, P10.2, B5: the book of any mill is as the chapter says, and nothing is wrong with it.
func TestAnyBook(t *testing.T) {
	troubles, both := map[api.Errno]int{}, map[api.Errno]int{}
	eachMill(t, 800, func(rng *rand.Rand, m mill) {
		r := fold(t, m.base, m.notes)
		x := build(t, m.base, r)
		want(t, "Base", x.Base, m.base)
		want(t, "Rank", x.Rank, must[[]int](t, "Rank")(crossing.Rank(m.base.Pair)))
		want(t, "Least", x.Least, must[[]int](t, "Least")(crossing.LeastCuts(m.base.Pair)))
		stories := must[[2]api.Story](t, "Stories")(books.Stories(m.base, r))
		for stone, side := range x.Sides {
			want(t, "Story", side.Story, stories[stone])
			wantSide(t, side)
		}
		want(t, "Trouble", x.Trouble, modelTrouble(x))
		troubles[x.Trouble]++
		wantFaults(t, "Check", x)
		if x.Trouble == api.ErrClash {
			want(t, "no work", []any{x.Lines, x.Shifts, x.Work, x.Cut, x.Weights, x.Lead, x.Tree}, []any{[]api.Line{}, 0, [][]int{}, []int{}, []int{}, []int{}, api.Tree{}})
			return
		}
		rings := m.base.Pair.Bed.Rings
		want(t, "Lines", len(x.Lines), 2*rings)
		for i, line := range x.Lines {
			var heights []api.Span
			for _, told := range x.Sides[i/rings].Told {
				heights = append(heights, told.Height)
			}
			wantLine(t, line, modelLine(m.base, heights, i/rings, i%rings))
		}
		wantWork(t, x)
		if x.Trouble == api.ErrReach {
			s, e := history.StoneOf(m.base, x.Weights)
			if e == api.OK {
				_, e = truth.Least(s)
			}
			both[e]++
		}
	})
	for _, e := range []api.Errno{api.OK, api.ErrClash, api.ErrReach, api.ErrStone, api.ErrBalance} {
		if troubles[e] < 8 {
			t.Errorf("only %d books have the trouble %d", troubles[e], e)
		}
	}
	for _, e := range []api.Errno{api.OK, api.ErrArg, api.ErrBalance} {
		if both[e] < 3 {
			t.Errorf("only %d books lack a dresser, and have the trouble %d behind that", both[e], e)
		}
	}
}

// troubled are bases and registers with each Trouble of the table, and with both of two.
func troubled() map[string]struct {
	base     api.Base
	register api.Register
	trouble  api.Errno
} {
	noReach := func(b *api.Base) { b.Crew.Reach[0] = []int{1} }
	noStone := func(b *api.Base) { b.Start[1][1], b.Aim[1][1] = span(-100000, -100000), span(-100000, 100000) }
	noBalance := func(b *api.Base) { b.Tol, b.Compass[0] = 0, api.Point{Y: 1} }
	worn := done(strokes(1, 1, 0, 1))
	return map[string]struct {
		base     api.Base
		register api.Register
		trouble  api.Errno
	}{
		"nothing":                     {aBase(), known(), api.OK},
		"the bed clashes":             {aBase(), clashing(0), api.ErrClash},
		"the runner clashes":          {withBase(noReach), clashing(1), api.ErrClash},
		"both clash":                  {withBase(noBalance), done(reading(1, 0, 0, -1, 20, 30), reading(2, 1, 0, -1, 20, 30)), api.ErrClash},
		"a line is not reached":       {withBase(noReach), known(), api.ErrReach},
		"no crew":                     {withBase(func(b *api.Base) { b.Crew = api.Crew{} }), known(), api.ErrReach},
		"no stone":                    {withBase(noStone), worn, api.ErrStone},
		"no balance":                  {withBase(noBalance), known(), api.ErrBalance},
		"not reached, and no stone":   {withBase(func(b *api.Base) { noReach(b); noStone(b) }), worn, api.ErrReach},
		"not reached, and no balance": {withBase(func(b *api.Base) { noReach(b); noBalance(b) }), known(), api.ErrReach},
	}
}

// P10.1, B5: each Trouble, with what is left then.
func TestTroubles(t *testing.T) {
	for what, x := range troubled() {
		book := build(t, x.base, x.register)
		want(t, what, book.Trouble, x.trouble)
		wantFaults(t, what, book)
		shared := x.trouble != api.ErrClash && x.trouble != api.ErrReach
		want(t, what+": shifts", []bool{book.Shifts > 0, len(book.Work) > 0, len(book.Cut) > 0}, []bool{shared, shared, shared})
		want(t, what+": lines", len(book.Lines) > 0, x.trouble != api.ErrClash)
		want(t, what+": weights", len(book.Weights) > 0, x.trouble != api.ErrClash)
		balanced := what == "nothing" || what == "a line is not reached" || what == "no crew"
		want(t, what+": lead", len(book.Lead) > 0, balanced)
		want(t, what+": tree", book.Tree.Kind > 0, balanced || what == "no balance" || what == "not reached, and no balance")
	}
}

// P10.1, B5: work is not wanted for a line that is not reached, if nothing is to be done there.
func TestNothingToReach(t *testing.T) {
	b := withBase(func(b *api.Base) { b.Crew, b.Aim = api.Crew{}, b.Start })
	x := build(t, b, api.Register{})
	want(t, "the plans", [][]int{x.Lines[0].Plan, x.Lines[1].Plan}, [][]int{{0, 0}, {0, 0}})
	want(t, "the shifts", []any{x.Trouble, x.Shifts, x.Work, x.Cut}, []any{api.OK, 0, [][]int{}, []int{}})
	wantFaults(t, "Check", x)
}

// P10.1, B5: a runner that is rich is ErrLimit, also where a line is not reached; but not where no lead is sought.
func TestRichRunners(t *testing.T) {
	rich := func(b *api.Base) { b.Pockets = slices.Repeat([]api.Pocket{{Most: 255}}, 3) }
	b := withBase(rich)
	wantError[api.Book](t, "a rich runner", api.ErrLimit)(books.Build(b, known()))
	b.Crew = api.Crew{}
	wantError[api.Book](t, "a rich runner that is not reached", api.ErrLimit)(books.Build(b, known()))
	want(t, "a rich runner, and a clash", build(t, b, clashing(0)).Trouble, api.ErrClash)
	x := troubled()["no stone"]
	rich(&x.base)
	want(t, "a rich runner that is no stone", build(t, x.base, x.register).Trouble, api.ErrStone)
	must[[]api.Line](t, "Tasks of a rich runner")(books.Tasks(b, known()))
	b = withBase(func(b *api.Base) {
		b.Pockets = []api.Pocket{{Arm: api.Point{X: 999, Y: 1}, Most: 63}, {Arm: api.Point{X: -998, Y: 2}, Most: 63}}
		b.Tol, b.Compass[0] = 0, api.Point{X: 7}
	})
	wantFaults(t, "4096 leads", build(t, b, known()))
	b.Pockets[0].Most, b.Pockets[1].Most = 255, 255
	wantFaults(t, "65536 leads", build(t, b, known()))
}

// R7: a book shares no lists with the base and the register, nor within itself; nor does what is known; and these are not changed.
func TestBooksAreNew(t *testing.T) {
	eachMill(t, 60, func(rng *rand.Rand, m mill) {
		b, r := m.base, fold(t, m.base, m.notes)
		b.Pair.Runner.Kinds, b.Aim = b.Pair.Bed.Kinds, b.Start
		if history.CheckBase(b) != api.OK {
			return
		}
		before := text(b) + text(r)
		x := build(t, b, r)
		stories := must[[2]api.Story](t, "Stories")(books.Stories(b, r))
		wantApart(t, "a book", x, b.Pair.Bed, b.Pair.Drive, b.Start, b.Grades, b.Crew, b.Compass, b.Pockets, b.Train, r, stories)
		if lines, e := books.Tasks(b, r); e == api.OK {
			wantApart(t, "tasks", lines, b.Start, r)
		}
		want(t, "the base and the register", text(b)+text(r), before)
		again := build(t, b, r)
		want(t, "the book again", again, x)
		kept := text(x)
		books.Check(x)
		wantApart(t, "both books", x, again)
		want(t, "the book behind Check", text(x), kept)
	})
}

// P10.2: large books, of as many cells and worlds as may be, and of a pair with nearly as many states as may be.
func TestLargeBooks(t *testing.T) {
	b := plainBase(24, 52)
	b.Wide, b.Crew.Reach[0] = 5, []int{0, 47}
	r := done(pass(2, 1, 1), reading(3, 0, 1, -1, -130, -90), strokes(9, 0, 23, 0, 7, 47), reading(10, 0, 1247, 1246, -3, 2))
	r.Heaps = []api.Event{heap(1, 1, 3)}
	for stone := range 2 {
		b.Aim[stone] = slices.Repeat([]api.Span{span(-400, -150)}, 1248)
	}
	b.Start[1][700] = span(300, 300)
	x := build(t, b, r)
	want(t, "Trouble", x.Trouble, api.ErrReach)
	want(t, "lines and cells", []int{len(x.Lines), len(x.Sides[0].Told), len(x.Least)}, []int{48, 1248, 64896})
	wantFaults(t, "Check", x)
	code := must[[]byte](t, "Encode")(books.Encode(x))
	y := must[api.Book](t, "Decode")(books.Decode(code))
	wantFaults(t, "Check of what is decoded", y)
	want(t, "the code again", books.Hash(must[[]byte](t, "Encode")(books.Encode(y))), books.Hash(code))
}
