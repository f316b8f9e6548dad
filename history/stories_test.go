package history_test

import (
	"math"
	"math/rand"
	"slices"
	"testing"

	"millrind/api"
	"millrind/dressing"
	"millrind/history"
	"millrind/wear"
)

func storyOf(t *testing.T, b api.Base, r api.Register, stone int) api.Story {
	t.Helper()
	return must[api.Story](t, "StoryOf")(history.StoryOf(b, r, stone))
}

func strokesOn(t *testing.T, r api.Register, stone, ring int) []int {
	t.Helper()
	return must[[]int](t, "StrokesOn")(history.StrokesOn(frame(), r, stone, ring))
}

// modelCuts counts, cell by cell, the turns at which a cell of a stone may cut.
func modelCuts(b api.Base, stone, cell int) int {
	ring, at := cell/4*4, cell%4
	count := 0
	for turn := range 4 {
		bed, runner := ring+at, ring+(at-turn+4)%4
		if stone == api.RunStone {
			bed, runner = ring+(at+turn)%4, ring+at
		}
		moves := b.Pair.Drive[3*b.Pair.Bed.Kinds[bed]+b.Pair.Runner.Kinds[runner]]
		if slices.ContainsFunc(moves, func(m api.Move) bool { return m.Cut }) {
			count++
		}
	}
	return count
}

// modelStory tells a register step by step.
func modelStory(b api.Base, r api.Register, stone int) api.Story {
	s := api.Story{Start: b.Start[stone]}
	for _, x := range r.Heaps {
		s.Heaps = append(s.Heaps, x.Note.Hard)
	}
	for _, x := range r.Events {
		step := api.Step{Times: make([]int, 8)}
		switch n := x.Note; {
		case n.Kind == 2:
			step.Kind, step.Heap = api.StepPass, slices.Index(refs(r.Heaps), n.Ref)
			for cell := range step.Times {
				step.Times[cell] = n.Turns * modelCuts(b, stone, cell)
			}
			s.Steps = append(s.Steps, step)
		case n.Kind == 3 && n.Stone == stone:
			s.Readings = append(s.Readings, api.Reading{Slice: len(s.Steps), A: n.A, B: n.B, Diff: n.Diff})
		case n.Kind == 4 && n.Stone == stone:
			step.Kind, step.Deep = api.StepStroke, b.Deep
			for cell := range step.Times {
				step.Times[cell] = modelCovers(b, n, cell)
			}
			s.Steps = append(s.Steps, step)
		}
	}
	return s
}

// modelCovers returns how many strokes of a note cover a cell of its stone.
func modelCovers(b api.Base, n api.Note, cell int) int {
	count := 0
	for _, first := range n.Strokes {
		if cell/4 == n.Ring && within(cell%4, first, first+b.Wide-1) {
			count++
		}
	}
	return count
}

// P8.1, H14, H15: the story of the chapter's example, of both stones.
func TestExampleStories(t *testing.T) {
	b, r := aBase(), fold(t, sample())
	want(t, "StrokesOn", strokesOn(t, r, api.BedStone, 1), []int{2, 2, 1, 1})
	want(t, "StrokesOn the other ring", strokesOn(t, r, api.BedStone, 0), make([]int, 4))
	want(t, "StrokesOn the other stone", strokesOn(t, r, api.RunStone, 1), make([]int, 4))
	want(t, "of the bed", storyOf(t, b, r, api.BedStone), api.Story{
		Start: b.Start[0], Heaps: []api.Span{span(2, 4)},
		Steps: []api.Step{
			{Kind: api.StepPass, Times: []int{9, 0, 9, 9, 9, 0, 0, 9}},
			{Kind: api.StepStroke, Times: []int{0, 0, 0, 0, 2, 2, 1, 1}, Deep: span(2, 3)},
		},
	})
	want(t, "of the runner", storyOf(t, b, r, api.RunStone), api.Story{
		Start: b.Start[1], Heaps: []api.Span{span(2, 4)},
		Steps: []api.Step{{Kind: api.StepPass, Times: []int{9, 9, 0, 9, 0, 6, 6, 6}}},
	})
	want(t, "of nothing", storyOf(t, b, api.Register{}, api.RunStone), api.Story{Start: b.Start[1]})
}

// P8.1, H15: heaps are told by their places in the register, also of a register in another order; a reading has the steps ahead of it as its slice.
func TestStoryOrder(t *testing.T) {
	heap := func(num, hard int) api.Event {
		return api.Event{Ref: name(1, num), Note: api.Note{House: 1, Num: num, Clock: 1, Day: 9, Kind: 1, Hard: span(hard, hard)}}
	}
	pass := func(num, of, turns int) api.Event {
		return api.Event{Ref: name(2, num), Note: api.Note{House: 2, Num: num, Clock: 1, Kind: 2, Ref: name(1, of), Turns: turns}}
	}
	read := func(num, stone, b int) api.Event {
		return api.Event{Ref: name(3, num), Note: api.Note{House: 3, Num: num, Clock: 1, Kind: 3, Stone: stone, A: 1, B: b, Diff: span(num, num)}}
	}
	strokes := func(num, stone int) api.Event {
		return api.Event{Ref: name(4, num), Note: api.Note{House: 4, Num: num, Clock: 1, Kind: 4, Stone: stone, Strokes: []int{2}}}
	}
	r := api.Register{
		Heaps:     []api.Event{heap(9, 7), heap(2, 5), heap(5, 6)},
		Events:    []api.Event{read(8, 0, -1), pass(9, 5, 1), read(3, 1, 7), strokes(2, 1), read(2, 1, -1), read(1, 0, 0), strokes(1, 0), pass(1, 9, 10000), read(7, 0, 2)},
		Conflicts: []api.Name{name(99, -5)},
	}
	s := storyOf(t, aBase(), r, 0)
	want(t, "the heaps", s.Heaps, []api.Span{span(7, 7), span(5, 5), span(6, 6)})
	want(t, "the passes", []int{len(s.Steps), s.Steps[0].Heap, s.Steps[1].Kind, s.Steps[2].Heap}, []int{3, 2, api.StepStroke, 0})
	want(t, "the longest pass", s.Steps[2].Times, []int{30000, 0, 30000, 30000, 30000, 0, 0, 30000})
	want(t, "the bed's readings", s.Readings, []api.Reading{{Slice: 0, A: 1, B: -1, Diff: span(8, 8)}, {Slice: 1, A: 1, B: 0, Diff: span(1, 1)}, {Slice: 3, A: 1, B: 2, Diff: span(7, 7)}})
	s = storyOf(t, aBase(), r, 1)
	want(t, "the runner's readings", s.Readings, []api.Reading{{Slice: 1, A: 1, B: 7, Diff: span(3, 3)}, {Slice: 2, A: 1, B: -1, Diff: span(2, 2)}})
	want(t, "the runner", s, modelStory(aBase(), r, 1))
}

// P8.1, P8.6, H14, H15: stories of any register are as the chapter says and valid; both stones have the same passes, and the Times of strokes on a ring add up to StrokesOn.
func TestAnyStories(t *testing.T) {
	rings := 0
	eachSet(t, 500, func(rng *rand.Rand, l []api.Note) {
		b, r := aBase(), fold(t, l)
		if rng.Intn(2) == 0 {
			slices.SortFunc(r.Events, func(a, b api.Event) int { return a.Note.Clock - b.Note.Clock })
		}
		passes := [2]int{}
		for stone := range 2 {
			s := storyOf(t, b, r, stone)
			want(t, "StoryOf", s, modelStory(b, r, stone))
			e, _ := wear.Check(s)
			wantError(t, "wear.Check", e, api.OK)
			sums := make([]int, 8)
			for _, x := range s.Steps {
				if x.Kind == api.StepPass {
					passes[stone]++
					continue
				}
				for cell, n := range x.Times {
					sums[cell] += n
				}
			}
			want(t, "StrokesOn the inner ring", strokesOn(t, r, stone, 0), sums[:4])
			want(t, "StrokesOn the outer ring", strokesOn(t, r, stone, 1), sums[4:])
			if slices.Max(sums) > 0 {
				rings++
			}
		}
		want(t, "passes of the runner", passes[1], passes[0])
	})
	if rings < 200 {
		t.Errorf("only %d stones have strokes", rings)
	}
}

// P8.6: strokes and readings of one stone leave the story of the other one alone.
func TestOtherStone(t *testing.T) {
	eachSet(t, 200, func(rng *rand.Rand, l []api.Note) {
		r := fold(t, l)
		for stone := range 2 {
			other := r
			other.Events = slices.DeleteFunc(slices.Clone(r.Events), func(x api.Event) bool { return x.Note.Kind > 2 && x.Note.Stone != stone })
			want(t, "StoryOf", storyOf(t, aBase(), other, stone), storyOf(t, aBase(), r, stone))
		}
	})
}

// many is a register with as many events of one kind on the bed, by no more than 400 of a house.
func many(kind, count int) api.Register {
	heap := api.Note{House: 8, Num: 1, Clock: 1, Kind: 1, Hard: span(1, 1)}
	r := api.Register{Heaps: []api.Event{{Ref: name(8, 1), Note: heap}}}
	for i := range count {
		n := api.Note{House: 1 + i/400, Num: 1 + i%400, Clock: 1, Kind: kind}
		switch kind {
		case 2:
			n.Ref, n.Turns = name(8, 1), 10000
		case 3:
			n.B = -1
		case 4:
			n.Strokes = make([]int, 200)
		}
		r.Events = append(r.Events, api.Event{Ref: name(n.House, n.Num), Note: n})
	}
	return r
}

// P8.1, H15, Errors: more than 64 steps or 200 readings of the stone that is asked for are ErrLimit.
func TestStoryLimits(t *testing.T) {
	for _, x := range []struct {
		kind, count int
		bed, runner api.Errno
	}{
		{2, 64, api.OK, api.OK}, {2, 65, api.ErrLimit, api.ErrLimit},
		{3, 200, api.OK, api.OK}, {3, 201, api.ErrLimit, api.OK},
		{4, 64, api.OK, api.OK}, {4, 65, api.ErrLimit, api.OK}, {4, 400, api.ErrLimit, api.OK},
	} {
		for stone, expected := range []api.Errno{x.bed, x.runner} {
			s, e := history.StoryOf(aBase(), many(x.kind, x.count), stone)
			wantError(t, "StoryOf", e, expected)
			if e != api.OK {
				want(t, "a story with an error", s, api.Story{})
				continue
			}
			e, _ = wear.Check(s)
			wantError(t, "wear.Check", e, api.OK)
		}
	}
	want(t, "StrokesOn for 400 notes", strokesOn(t, many(4, 400), 0, 0), []int{80000, 80000, 0, 0})
	b := flatBase(7, 96)
	r := many(2, 1)
	s := storyOf(t, b, r, 1)
	want(t, "the longest pass", s.Steps[0].Times[0], 960000)
	e, _ := wear.Check(s)
	wantError(t, "wear.Check", e, api.OK)
}

// badRegisters are registers that are not right.
func badRegisters() map[string]func(r *api.Register) {
	rename := func(x *api.Event, house, num int) { x.Ref, x.Note.House, x.Note.Num = name(house, num), house, num }
	return map[string]func(r *api.Register){
		"nine heaps": func(r *api.Register) {
			for i := range 8 {
				r.Heaps = append(r.Heaps, r.Heaps[0])
				rename(&r.Heaps[i+1], 5, 1+i)
			}
		},
		"401 events":                     func(r *api.Register) { r.Events = many(3, 401).Events },
		"a pass among heaps":             func(r *api.Register) { r.Heaps = append(r.Heaps, r.Events[0]); r.Events = r.Events[1:] },
		"strokes among heaps":            func(r *api.Register) { r.Heaps = append(r.Heaps, r.Events[1]); r.Events = r.Events[:1] },
		"a heap among events":            func(r *api.Register) { r.Events = append(r.Events, r.Heaps[0]); rename(&r.Events[2], 5, 5) },
		"an ill-formed heap":             func(r *api.Register) { r.Heaps[0].Note.Hard.Lo = 0 },
		"an ill-formed pass":             func(r *api.Register) { r.Events[0].Note.Turns = 10001 },
		"ill-formed strokes":             func(r *api.Register) { r.Events[1].Note.Strokes = []int{3} },
		"a correction among events":      func(r *api.Register) { r.Events[0].Note.Kind, r.Events[0].Note.Fix = 5, 2 },
		"a withdrawal among events":      func(r *api.Register) { r.Events[0].Note.Kind, r.Events[0].Note.Turns = 6, 0 },
		"a withdrawal among heaps":       func(r *api.Register) { r.Heaps[0].Note = withdrawal(1, 1, name(1, 1)) },
		"a heap of another name":         func(r *api.Register) { r.Heaps[0].Ref = name(1, 9); r.Events = nil },
		"an event of another name":       func(r *api.Register) { r.Events[1].Ref = name(2, 3) },
		"an event without a name":        func(r *api.Register) { r.Events[1].Ref = api.Name{} },
		"two heaps of one name":          func(r *api.Register) { r.Heaps = append(r.Heaps, r.Heaps[0]) },
		"two events of one name":         func(r *api.Register) { r.Events = append(r.Events, r.Events[1]) },
		"a heap and an event of a name":  func(r *api.Register) { rename(&r.Events[1], 1, 1) },
		"a pass of no heap":              func(r *api.Register) { r.Events[0].Note.Ref = name(1, 9) },
		"a pass of an event":             func(r *api.Register) { r.Events[0].Note.Ref = name(1, 3) },
		"a pass of itself":               func(r *api.Register) { r.Events[0].Note.Ref = name(1, 2) },
		"a pass without its heap":        func(r *api.Register) { r.Heaps = nil },
		"a ring that is none":            func(r *api.Register) { r.Events[1].Note.Ring = 2 },
		"events without anything":        func(r *api.Register) { r.Events = make([]api.Event, 2) },
		"heaps without anything":         func(r *api.Register) { *r = api.Register{Heaps: make([]api.Event, 1)} },
		"a heap with a field of strokes": func(r *api.Register) { r.Heaps[0].Note.Strokes = []int{0} },
	}
}

// P8.1, H14, H15, Errors: a register that is not right, a stone or a ring that is none, is ErrArg.
func TestRegisterErrors(t *testing.T) {
	for what, change := range badRegisters() {
		r := fold(t, sample())
		if change(&r); modelRight(frame(), r) {
			t.Errorf("%s: the register is right", what)
		}
		l, e := history.StrokesOn(frame(), r, 0, 0)
		wantError(t, what+": StrokesOn", e, api.ErrArg)
		want(t, what+": StrokesOn", l, []int{})
		s, e := history.StoryOf(aBase(), r, 0)
		wantError(t, what+": StoryOf", e, api.ErrArg)
		want(t, what+": StoryOf", s, api.Story{})
	}
	for _, x := range [][2]int{{-1, 0}, {2, 0}, {0, -1}, {0, 2}, {math.MaxInt, math.MinInt}, {math.MinInt, math.MaxInt}} {
		l, e := history.StrokesOn(frame(), fold(t, sample()), x[0], x[1])
		wantError(t, "StrokesOn", e, api.ErrArg)
		want(t, "StrokesOn", l, []int{})
	}
	for _, stone := range []int{-1, 2, math.MaxInt, math.MinInt} {
		for _, r := range []api.Register{fold(t, sample()), many(2, 65)} {
			s, e := history.StoryOf(aBase(), r, stone)
			wantError(t, "StoryOf", e, api.ErrArg)
			want(t, "StoryOf", s, api.Story{})
		}
	}
	for what, f := range badFrames() {
		l, e := history.StrokesOn(f, api.Register{}, 0, 0)
		wantError(t, what+": StrokesOn", e, api.ErrArg)
		want(t, what+": StrokesOn", l, []int{})
	}
	wide := api.Frame{Rings: 2, Sectors: 4, Wide: 3}
	_, e := history.StrokesOn(wide, fold(t, sample()), 0, 0)
	wantError(t, "StrokesOn of a register of another frame", e, api.ErrArg)
	_, e = history.StoryOf(withBase(func(b *api.Base) { b.Wide = 3 }), fold(t, sample()), 0)
	wantError(t, "StoryOf of a register of another frame", e, api.ErrArg)
}

// life is what was really done to a stone: its heights, and how hard each heap is.
type life struct {
	rng     *rand.Rand
	heights []int
	hard    map[api.Name]int
}

// lose takes away what a note did, and returns it as it is told: a reading tells about what is.
func (x life) lose(b api.Base, n api.Note, stone int) api.Note {
	for cell := range x.heights {
		switch {
		case n.Kind == 2:
			x.heights[cell] -= n.Turns * modelCuts(b, stone, cell) * x.hard[n.Ref]
		case n.Kind == 4 && n.Stone == stone:
			for range modelCovers(b, n, cell) {
				x.heights[cell] -= fromTo(x.rng, b.Deep.Lo, b.Deep.Hi)
			}
		}
	}
	if n.Kind == 3 && n.Stone == stone {
		is := x.heights[n.A]
		if n.B >= 0 {
			is -= x.heights[n.B]
		}
		n.Diff = span(is-x.rng.Intn(9), is+x.rng.Intn(9))
	}
	return n
}

// P0.4, P8.6: whatever was done to a stone within what is known, its heights are within what its story tells.
func TestStoriesTellWhatWasDone(t *testing.T) {
	narrowed := 0
	eachSet(t, 120, func(rng *rand.Rand, l []api.Note) {
		b, r, stone := aBase(), fold(t, l), rng.Intn(2)
		x := life{rng: rng, hard: map[api.Name]int{}}
		worlds := 1
		for i, heap := range r.Heaps {
			if worlds *= heap.Note.Hard.Hi - heap.Note.Hard.Lo + 1; worlds > 64 {
				heap.Note.Hard.Hi = heap.Note.Hard.Lo
				r.Heaps[i] = heap
			}
			x.hard[heap.Ref] = fromTo(rng, heap.Note.Hard.Lo, heap.Note.Hard.Hi)
		}
		for _, h := range b.Start[stone] {
			x.heights = append(x.heights, fromTo(rng, h.Lo, h.Hi))
		}
		for i := range r.Events {
			r.Events[i].Note = x.lose(b, r.Events[i].Note, stone)
		}
		s := storyOf(t, b, r, stone)
		told := must[[]api.Span](t, "wear.Heights")(wear.Heights(s, len(s.Steps)))
		for cell, h := range told {
			if !within(x.heights[cell], h.Lo, h.Hi) {
				t.Errorf("the cell %d is %d high, and %v is told", cell, x.heights[cell], h)
			}
		}
		if len(s.Readings) > 0 {
			narrowed++
		}
	})
	if narrowed < 40 {
		t.Errorf("only %d stories have readings", narrowed)
	}
}

// tight is the base with aims of which some are too narrow for any number of strokes.
func tight(rng *rand.Rand) api.Base {
	b := aBase()
	for stone := range b.Aim {
		for cell := range b.Aim[stone] {
			lo := fromTo(rng, 76, 84)
			b.Aim[stone][cell] = span(lo, lo+fromTo(rng, 4, 24))
		}
	}
	return b
}

// someSpans are random heights for the base.
func someSpans(rng *rand.Rand) []api.Span {
	var l []api.Span
	for range 8 {
		lo := fromTo(rng, 88, 104)
		l = append(l, span(lo, lo+rng.Intn(6)))
	}
	return l
}

// P8.1, H18: the task of a ring needs for each sector what dressing.Need says of its cell; the error is that of the first sector that has one.
func TestTaskOf(t *testing.T) {
	rng := rand.New(rand.NewSource(18))
	done, never := 0, 0
	for range 500 {
		b, heights := tight(rng), someSpans(rng)
		stone, ring := rng.Intn(2), rng.Intn(2)
		expected, fault := api.Task{Wide: 2}, api.OK
		for cell := 4 * ring; cell < 4*ring+4; cell++ {
			need, e := dressing.Need(heights[cell], b.Aim[stone][cell], b.Deep)
			expected.Need = append(expected.Need, need)
			if e != api.OK {
				expected, fault = api.Task{}, e
				break
			}
		}
		task, e := history.TaskOf(b, heights, stone, ring)
		wantError(t, "TaskOf", e, fault)
		want(t, "TaskOf", task, expected)
		if e == api.OK {
			wantError(t, "dressing.Check", dressing.Check(task), api.OK)
			done++
		} else {
			wantError(t, "TaskOf", e, api.ErrStroke)
			never++
		}
	}
	if done < 50 || never < 50 {
		t.Errorf("%d tasks, and %d that nothing does", done, never)
	}
	high := slices.Repeat([]api.Span{span(1000000000, 1000000000)}, 8)
	_, e := history.TaskOf(aBase(), high, 0, 0)
	wantError(t, "the greatest heights", e, api.ErrStroke)
}

// P8.1, H18, Errors: heights, a stone or a ring that are none are ErrArg, ahead of what the sectors need.
func TestTaskErrors(t *testing.T) {
	one := func(x api.Span, count int) []api.Span { return slices.Repeat([]api.Span{x}, count) }
	for what, l := range map[string][]api.Span{
		"no heights": nil, "too few": one(span(0, 0), 7), "too many": one(span(0, 0), 9), "inverted": one(span(1, 0), 8),
		"too low": one(span(-1000000001, 0), 8), "too high": one(span(0, 1000000001), 8), "beyond all": one(span(math.MinInt, math.MaxInt), 8),
		"the last one inverted": append(one(span(80, 80), 7), span(1, 0)),
	} {
		task, e := history.TaskOf(aBase(), l, 0, 0)
		wantError(t, what, e, api.ErrArg)
		want(t, what, task, api.Task{})
	}
	for _, x := range [][2]int{{-1, 0}, {2, 0}, {0, -1}, {0, 2}, {math.MaxInt, math.MaxInt}, {0, math.MaxInt}} {
		_, e := history.TaskOf(aBase(), one(span(-1000000000, -1000000000), 8), x[0], x[1])
		wantError(t, "TaskOf", e, api.ErrArg)
	}
}

// P0.6, P8.7: whatever the heights within their spans are, and whatever each stroke takes, a plan that does the task brings each cell of the ring to its Aim.
func TestTheWorkDoesIt(t *testing.T) {
	rng := rand.New(rand.NewSource(7))
	dressed := 0
	for range 400 {
		b, heights := tight(rng), someSpans(rng)
		stone, ring := rng.Intn(2), rng.Intn(2)
		task, e := history.TaskOf(b, heights, stone, ring)
		if e != api.OK {
			continue
		}
		plan, e := dressing.Plan(task)
		if e != api.OK {
			continue
		}
		dressed++
		for range 10 {
			for sector := range 4 {
				cell := 4*ring + sector
				h := fromTo(rng, heights[cell].Lo, heights[cell].Hi)
				for first, count := range plan {
					for range count {
						if within(sector, first, first+b.Wide-1) {
							h -= fromTo(rng, b.Deep.Lo, b.Deep.Hi)
						}
					}
				}
				if aim := b.Aim[stone][cell]; !within(h, aim.Lo, aim.Hi) {
					t.Fatalf("the cell %d of %v is %d high behind %v", cell, heights, h, plan)
				}
			}
		}
	}
	if dressed < 30 {
		t.Errorf("only %d rings are dressed", dressed)
	}
}
