package books_test

import (
	"math"
	"math/rand"
	"slices"
	"testing"

	"millrind/api"
	"millrind/books"
	"millrind/dressing"
	"millrind/history"
	"millrind/wear"
)

// knownCalls are the functions of a base and a register; each checks its error, and that its result is zero.
func knownCalls(t *testing.T, what string, b api.Base, r api.Register, stone int, e api.Errno) {
	t.Helper()
	wantError[[2]api.Story](t, what+": Stories", e)(books.Stories(b, r))
	wantError[[]api.Span](t, what+": Heights", e)(books.Heights(b, r, stone))
	wantError[[]api.Line](t, what+": Tasks", e)(books.Tasks(b, r))
	wantError[[]int](t, what+": Weights", e)(books.Weights(b, r))
	wantError[api.Book](t, what+": Build", e)(books.Build(b, r))
}

// P10.1, Errors: a base that is not valid comes first, then a register that is not right.
func TestBadBases(t *testing.T) {
	for what, b := range badBases() {
		knownCalls(t, what, b, api.Register{}, 0, api.ErrBase)
		for which, r := range badRegisters() {
			knownCalls(t, what+", "+which, b, r, 2, api.ErrBase)
		}
		knownCalls(t, what+", a clash", b, clashing(1), 1, api.ErrBase)
	}
	for what, r := range badRegisters() {
		for _, stone := range []int{-1, 0, 1, 2} {
			knownCalls(t, what, aBase(), r, stone, api.ErrArg)
		}
	}
}

// P10.1, B2, Errors: a stone is 0 or 1.
func TestBadStones(t *testing.T) {
	for _, stone := range []int{-1, 2, math.MaxInt, math.MinInt} {
		for what, r := range map[string]api.Register{"nothing": {}, "a clash": clashing(0), "too much": longRegister(0, 201, 0), "wide": wideRegister(255, 255)} {
			wantError[[]api.Span](t, "Heights of "+what, api.ErrArg)(books.Heights(aBase(), r, stone))
		}
	}
}

// P10.1, Errors: too many steps or readings of a stone are ErrLimit where that stone is asked for, also if a side clashes.
func TestLongStories(t *testing.T) {
	for stone := range 2 {
		for what, r := range map[string]api.Register{"readings": longRegister(stone, 201, 0), "steps": longRegister(stone, 0, 65)} {
			want(t, what+" of the other stone", must[[]api.Span](t, what)(books.Heights(aBase(), r, 1-stone)), aBase().Start[0])
			_, e := books.Weights(aBase(), r)
			want(t, what+": Weights", e == api.ErrLimit, stone == api.RunStone)
			for clash := range 3 {
				if clash < 2 {
					r.Events = append(r.Events, reading(300+clash, clash, 0, -1, 20, 30))
				}
				wantError[[2]api.Story](t, what+": Stories", api.ErrLimit)(books.Stories(aBase(), r))
				wantError[[]api.Line](t, what+": Tasks", api.ErrLimit)(books.Tasks(aBase(), r))
				wantError[api.Book](t, what+": Build", api.ErrLimit)(books.Build(aBase(), r))
				wantError[[]api.Span](t, what+": Heights", api.ErrLimit)(books.Heights(aBase(), r, stone))
			}
		}
		for what, r := range map[string]api.Register{"readings": longRegister(stone, 200, 0), "steps": longRegister(stone, 0, 64)} {
			must[[2]api.Story](t, what)(books.Stories(aBase(), r))
			must[[]api.Span](t, what)(books.Heights(aBase(), r, stone))
			must[[]int](t, what)(books.Weights(aBase(), r))
		}
	}
}

// P10.1, B1, Errors: a side is large beyond 256 worlds, or 4096 cells times worlds; its story is told nevertheless, and that comes ahead of a clash.
func TestLargeSides(t *testing.T) {
	for what, x := range map[string]struct {
		sectors int
		hards   []int
		large   bool
	}{
		"16 cells in 256 worlds":         {16, []int{16, 16}, false},
		"17 cells in 256 worlds":         {17, []int{16, 16}, true},
		"2 cells in 257 worlds":          {2, []int{255, 2}, true},
		"2 cells in 256 worlds":          {2, []int{128, 2, 1}, false},
		"2 cells in 255^8 worlds":        {2, slices.Repeat([]int{255}, 8), true},
		"64 cells in 64 worlds":          {64, []int{64}, false},
		"63 cells in 65 worlds":          {63, []int{65}, false},
		"64 cells in 65 worlds, a clash": {64, []int{65}, true},
	} {
		b, r := plainBase(1, x.sectors), wideRegister(x.hards...)
		for stone := range 2 {
			if x.large {
				r.Events = append(r.Events, reading(300+stone, stone, 0, -1, 5000, 6000))
			}
		}
		s := must[[2]api.Story](t, what)(books.Stories(b, r))
		want(t, what, []int{len(s[0].Heaps), len(s[1].Start)}, []int{len(x.hards), x.sectors})
		if x.large {
			wantError[[]api.Span](t, what+": Heights", api.ErrLimit)(books.Heights(b, r, 0))
			wantError[[]api.Span](t, what+": Heights", api.ErrLimit)(books.Heights(b, r, 1))
			wantError[[]api.Line](t, what+": Tasks", api.ErrLimit)(books.Tasks(b, r))
			wantError[[]int](t, what+": Weights", api.ErrLimit)(books.Weights(b, r))
			wantError[api.Book](t, what+": Build", api.ErrLimit)(books.Build(b, r))
			continue
		}
		must[[]api.Line](t, what)(books.Tasks(b, r))
		book := build(t, b, r)
		wantFaults(t, what, book)
		want(t, what+": told", len(book.Sides[1].Told), x.sectors)
	}
}

// plainBase is a base of stones that are all land, of a size.
func plainBase(rings, sectors int) api.Base {
	b := aBase()
	for _, f := range []*api.Face{&b.Pair.Bed, &b.Pair.Runner} {
		f.Rings, f.Sectors, f.Kinds = rings, sectors, make([]int, rings*sectors)
	}
	for stone := range 2 {
		b.Start[stone] = slices.Repeat([]api.Span{span(10, 12)}, rings*sectors)
		b.Aim[stone] = slices.Repeat([]api.Span{span(0, 8)}, rings*sectors)
	}
	b.Compass = make([]api.Point, sectors)
	return b
}

// P10.1, B2, B3, B4: a clash is told where a stone of it is asked for.
func TestClashes(t *testing.T) {
	for stone := range 2 {
		r := clashing(stone)
		must[[2]api.Story](t, "Stories")(books.Stories(aBase(), r))
		wantError[[]api.Span](t, "Heights", api.ErrClash)(books.Heights(aBase(), r, stone))
		want(t, "Heights of the other stone", must[[]api.Span](t, "Heights")(books.Heights(aBase(), r, 1-stone)), aBase().Start[0])
		wantError[[]api.Line](t, "Tasks", api.ErrClash)(books.Tasks(aBase(), r))
	}
	want(t, "Weights where the bed clashes", must[[]int](t, "Weights")(books.Weights(aBase(), clashing(0))), []int{10, 10})
	wantError[[]int](t, "Weights where the runner clashes", api.ErrClash)(books.Weights(aBase(), clashing(1)))
}

// P10.1, B1 to B4, DOC's examples 4 and 5: a cell that starts at 10 to 12, and is read as 11 to 20, is 11 to 12 high, and needs 2 to 5 strokes.
func TestExampleKnown(t *testing.T) {
	s := must[[2]api.Story](t, "Stories")(books.Stories(aBase(), known()))
	want(t, "the bed's story", s[0], api.Story{Start: aBase().Start[0], Readings: []api.Reading{{B: -1, Diff: span(11, 20)}}})
	want(t, "the runner's story", s[1], api.Story{Start: aBase().Start[1]})
	want(t, "Heights", must[[]api.Span](t, "Heights")(books.Heights(aBase(), known(), 0)), []api.Span{span(11, 12), span(10, 10)})
	want(t, "Heights", must[[]api.Span](t, "Heights")(books.Heights(aBase(), known(), 1)), []api.Span{span(10, 12), span(10, 10)})
	want(t, "Weights", must[[]int](t, "Weights")(books.Weights(aBase(), known())), []int{10, 10})
	want(t, "Tasks", must[[]api.Line](t, "Tasks")(books.Tasks(aBase(), known())), []api.Line{
		{State: api.LineWork, Cell: -1, Task: api.Task{Wide: 1, Need: []api.Span{span(2, 5), span(0, 5)}}},
		{Stone: 1, State: api.LineWork, Cell: -1, Task: api.Task{Wide: 1, Need: []api.Span{span(2, 5), span(0, 5)}}},
	})
}

// P10.1, B2, B4: heights are those behind all steps, over all worlds that live.
func TestHeightsBehindAll(t *testing.T) {
	r := passed()
	want(t, "the bed", must[[]api.Span](t, "Heights")(books.Heights(aBase(), r, 0)), []api.Span{span(6, 10), span(6, 8)})
	want(t, "the runner", must[[]api.Span](t, "Heights")(books.Heights(aBase(), r, 1)), []api.Span{span(4, 9), span(4, 8)})
	want(t, "Weights", must[[]int](t, "Weights")(books.Weights(aBase(), r)), []int{4, 4})
}

// P10.1, B3: of the cells of a ring that are not known well enough the first one is told, by its index; other rings are not vague for that.
func TestVagueLines(t *testing.T) {
	b := plainBase(2, 3)
	b.Aim[1][4], b.Aim[1][5] = span(8, 9), span(9, 9)
	b.Wide = 3
	b.Start[0][1], b.Aim[0][1] = span(30, 30), span(0, 8)
	l := must[[]api.Line](t, "Tasks")(books.Tasks(b, api.Register{}))
	need := slices.Repeat([]api.Span{span(2, 5)}, 3)
	want(t, "Tasks", l, []api.Line{
		{State: api.LineNever, Cell: -1, Task: api.Task{Wide: 3, Need: []api.Span{span(2, 5), span(11, 15), span(2, 5)}}},
		{Ring: 1, State: api.LineWork, Cell: -1, Task: api.Task{Wide: 3, Need: need}},
		{Stone: 1, State: api.LineWork, Cell: -1, Task: api.Task{Wide: 3, Need: need}},
		{Stone: 1, Ring: 1, State: api.LineVague, Cell: 4},
	})
	// Heights beyond those that strokes are told for are vague, too.
	b = plainBase(1, 96)
	r := wideRegister(1)
	r.Heaps[0].Note.Hard = span(255, 255)
	for num := range 43 {
		r.Events = append(r.Events, pass(num+2, 1, 10000))
	}
	l = must[[]api.Line](t, "Tasks")(books.Tasks(b, r))
	want(t, "far heights", l, []api.Line{{State: api.LineVague}, {Stone: 1, State: api.LineVague}})
}

// modelLine is what the chapter says of a line with these heights.
func modelLine(b api.Base, heights []api.Span, stone, ring int) api.Line {
	sectors := b.Pair.Bed.Sectors
	task := api.Task{Wide: b.Wide}
	for sector := range sectors {
		cell := ring*sectors + sector
		need, e := dressing.Need(heights[cell], b.Aim[stone][cell], b.Deep)
		if e != api.OK {
			return api.Line{Stone: stone, Ring: ring, State: 3, Cell: cell}
		}
		task.Need = append(task.Need, need)
	}
	if _, e := dressing.Plan(task); e != api.OK {
		return api.Line{Stone: stone, Ring: ring, State: 2, Cell: -1, Task: task}
	}
	return api.Line{Stone: stone, Ring: ring, State: 1, Cell: -1, Task: task}
}

// P10.1, B1 to B4: what is known of any mill is what the layers below say.
func TestKnownOfAny(t *testing.T) {
	var states [4]int
	clashes := 0
	eachMill(t, 400, func(rng *rand.Rand, m mill) {
		r := fold(t, m.base, m.notes)
		stories := must[[2]api.Story](t, "Stories")(books.Stories(m.base, r))
		var heights [2][]api.Span
		clash := false
		for stone, s := range stories {
			want(t, "a story", s, must[api.Story](t, "StoryOf")(history.StoryOf(m.base, r, stone)))
			h, e := wear.Heights(s, len(s.Steps))
			got, f := books.Heights(m.base, r, stone)
			want(t, "Heights", got, h)
			want(t, "Heights: error", f, e)
			heights[stone] = h
			clash = clash || e == api.ErrClash
		}
		weights, e := books.Weights(m.base, r)
		var least []int
		for _, h := range heights[1] {
			least = append(least, h.Lo)
		}
		want(t, "Weights", weights, least)
		want(t, "Weights: a clash", e == api.ErrClash, len(heights[1]) == 0)
		if clash {
			clashes++
			wantError[[]api.Line](t, "Tasks", api.ErrClash)(books.Tasks(m.base, r))
			return
		}
		var lines []api.Line
		for stone := range 2 {
			for ring := range m.base.Pair.Bed.Rings {
				lines = append(lines, modelLine(m.base, heights[stone], stone, ring))
				states[lines[len(lines)-1].State]++
			}
		}
		want(t, "Tasks", must[[]api.Line](t, "Tasks")(books.Tasks(m.base, r)), lines)
	})
	if clashes < 15 || states[1] < 200 || states[2] < 30 || states[3] < 60 {
		t.Errorf("%d clashes, and lines of the states %v", clashes, states)
	}
}
