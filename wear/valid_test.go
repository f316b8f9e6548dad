package wear_test

import (
	"slices"
	"testing"

	"millrind/api"
	"millrind/wear"
)

// flat is a story of some cells that start at 0, some passes that leave them alone, heaps of the hardness 1, and readings of the cell 0.
func flat(cells, heaps, steps, readings int) api.Story {
	s := api.Story{
		Start: slices.Repeat([]api.Span{{}}, cells),
		Heaps: slices.Repeat([]api.Span{{Lo: 1, Hi: 1}}, heaps),
	}
	for range steps {
		s.Steps = append(s.Steps, api.Step{Kind: api.StepPass, Times: make([]int, cells)})
	}
	s.Readings = slices.Repeat([]api.Reading{{A: 0, B: -1}}, readings)
	return s
}

// P4.1, W1: as much as may be is valid, and one more of anything is ErrLimit without a number, also where a condition is not met.
func TestCheckLimits(t *testing.T) {
	for _, x := range []struct {
		what                          string
		cells, heaps, steps, readings int
		want                          api.Errno
	}{
		{"as much as may be", 4096, 8, 64, 200, api.OK},
		{"one cell", 1, 0, 0, 0, api.OK},
		{"too many cells", 4097, 8, 64, 200, api.ErrLimit},
		{"too many heaps", 4096, 9, 64, 200, api.ErrLimit},
		{"too many steps", 4096, 8, 65, 200, api.ErrLimit},
		{"too many readings", 4096, 8, 64, 201, api.ErrLimit},
	} {
		s := flat(x.cells, x.heaps, x.steps, x.readings)
		if e, n := wear.Check(s); e != x.want || n != 0 {
			t.Errorf("%s: %d, %d", x.what, e, n)
		}
		s.Start[0] = api.Span{Lo: 1}
		if e, n := wear.Check(s); x.want == api.ErrLimit && (e != x.want || n != 0) {
			t.Errorf("%s and a wrong start: %d, %d", x.what, e, n)
		}
	}
}

// broken is a change to a story, and the condition that it does not meet then (0 if it meets all).
type broken struct {
	what   string
	number int
	change func(s *api.Story)
}

// base is a story with a pass, strokes, and readings of one cell and of two.
func base() api.Story {
	return api.Story{
		Start:    []api.Span{{Lo: 0, Hi: 9}, {Lo: 0, Hi: 9}},
		Heaps:    []api.Span{{Lo: 2, Hi: 3}, {Lo: 1, Hi: 1}},
		Steps:    []api.Step{{Kind: api.StepPass, Heap: 1, Times: []int{1, 2}}, {Kind: api.StepStroke, Times: []int{1, 0}, Deep: api.Span{Lo: 1, Hi: 2}}},
		Readings: []api.Reading{{Slice: 2, A: 0, B: 1, Diff: api.Span{Lo: -9, Hi: 9}}, {Slice: 0, A: 1, B: -1, Diff: api.Span{Lo: 0, Hi: 9}}},
	}
}

func brokenStories() []broken {
	return []broken{
		{"as it is", 0, func(s *api.Story) {}},
		{"no cells", 1, func(s *api.Story) { s.Start = nil }},
		{"a start that ends ahead of itself", 1, func(s *api.Story) { s.Start[1] = api.Span{Lo: 1} }},
		{"the greatest start", 0, func(s *api.Story) { s.Start[1] = api.Span{Lo: -1000000000, Hi: 1000000000} }},
		{"a start that is too low", 1, func(s *api.Story) { s.Start[1].Lo = -1000000001 }},
		{"a start that is too high", 1, func(s *api.Story) { s.Start[0].Hi = 1000000001 }},
		{"the hardest heap", 0, func(s *api.Story) { s.Heaps[1] = api.Span{Lo: 1, Hi: 255} }},
		{"a heap that is too hard", 2, func(s *api.Story) { s.Heaps[1].Hi = 256 }},
		{"a heap that is too soft", 2, func(s *api.Story) { s.Heaps[0].Lo = 0 }},
		{"a heap that ends ahead of itself", 2, func(s *api.Story) { s.Heaps[0] = api.Span{Lo: 3, Hi: 2} }},
		{"a wrong start and a wrong heap", 1, func(s *api.Story) { s.Start[0].Lo, s.Heaps[0].Lo = 10, 0 }},
		{"a wrong heap and a wrong step", 2, func(s *api.Story) { s.Heaps[0].Lo, s.Steps[0].Kind = 0, 0 }},
		{"a wrong step and a wrong reading", 3, func(s *api.Story) { s.Steps[0].Kind, s.Readings[0].A = 0, 2 }},
	}
}

func brokenSteps() []broken {
	return []broken{
		{"the kind 0", 3, func(s *api.Story) { s.Steps[0].Kind = 0 }},
		{"the kind 3", 3, func(s *api.Story) { s.Steps[1].Kind = 3 }},
		{"a pass of no heap", 3, func(s *api.Story) { s.Steps[0].Heap = 2 }},
		{"a pass of a heap below the first one", 3, func(s *api.Story) { s.Steps[0].Heap = -1 }},
		{"too few times of a pass", 3, func(s *api.Story) { s.Steps[0].Times = []int{1} }},
		{"too many times of a stroke", 3, func(s *api.Story) { s.Steps[1].Times = []int{1, 1, 1} }},
		{"a pass as often as may be", 0, func(s *api.Story) { s.Steps[0].Times[1] = 1000000 }},
		{"a pass too often", 3, func(s *api.Story) { s.Steps[0].Times[1] = 1000001 }},
		{"a pass less than never", 3, func(s *api.Story) { s.Steps[0].Times[0] = -1 }},
		{"a pass with a depth", 3, func(s *api.Story) { s.Steps[0].Deep.Hi = 1 }},
		{"strokes of a heap", 3, func(s *api.Story) { s.Steps[1].Heap = 1 }},
		{"as many strokes as may be", 0, func(s *api.Story) { s.Steps[1].Times[0] = 100000 }},
		{"too many strokes", 3, func(s *api.Story) { s.Steps[1].Times[0] = 100001 }},
		{"fewer strokes than none", 3, func(s *api.Story) { s.Steps[1].Times[1] = -1 }},
		{"strokes that take nothing", 0, func(s *api.Story) { s.Steps[1].Deep = api.Span{} }},
		{"the deepest strokes", 0, func(s *api.Story) { s.Steps[1].Deep = api.Span{Lo: 1000000000, Hi: 1000000000} }},
		{"strokes that are too deep", 3, func(s *api.Story) { s.Steps[1].Deep.Hi = 1000000001 }},
		{"strokes that add", 3, func(s *api.Story) { s.Steps[1].Deep.Lo = -1 }},
		{"a depth that ends ahead of itself", 3, func(s *api.Story) { s.Steps[1].Deep = api.Span{Lo: 2, Hi: 1} }},
		{"a wrong step behind a good one", 3, func(s *api.Story) { s.Steps[1].Kind = 4 }},
	}
}

func brokenReadings() []broken {
	return []broken{
		{"the last slice", 0, func(s *api.Story) { s.Readings[1].Slice = 2 }},
		{"a slice behind the last one", 4, func(s *api.Story) { s.Readings[1].Slice = 3 }},
		{"a slice ahead of the first one", 4, func(s *api.Story) { s.Readings[0].Slice = -1 }},
		{"no cell as A", 4, func(s *api.Story) { s.Readings[0].A = 2 }},
		{"the ground as A", 4, func(s *api.Story) { s.Readings[0].A = -1 }},
		{"the ground as A and B", 4, func(s *api.Story) { s.Readings[1].A = -1 }},
		{"no cell as B", 4, func(s *api.Story) { s.Readings[0].B = 2 }},
		{"a B below the ground", 4, func(s *api.Story) { s.Readings[0].B = -2 }},
		{"one cell twice", 4, func(s *api.Story) { s.Readings[0].B = 0 }},
		{"a difference that ends ahead of itself", 4, func(s *api.Story) { s.Readings[0].Diff = api.Span{Lo: 1} }},
		{"the greatest difference", 0, func(s *api.Story) { s.Readings[0].Diff = api.Span{Lo: -1 << 40, Hi: 1 << 40} }},
		{"too great a difference", 4, func(s *api.Story) { s.Readings[0].Diff.Hi = 1<<40 + 1 }},
		{"too small a difference", 4, func(s *api.Story) { s.Readings[0].Diff.Lo = -1<<40 - 1 }},
	}
}

// P4.1, W1: the number of the first condition that a story does not meet, with each part of each condition at its limits and beyond.
func TestCheckConditions(t *testing.T) {
	for _, x := range slices.Concat(brokenStories(), brokenSteps(), brokenReadings()) {
		s := base()
		x.change(&s)
		want := api.ErrStory
		if x.number == 0 {
			want = api.OK
		}
		if e, n := wear.Check(s); e != want || n != x.number {
			t.Errorf("%s: Check is %d, %d", x.what, e, n)
		}
		if _, e := wear.Closes(s, []int{2, 1}); e != want {
			t.Errorf("%s: Closes is %d", x.what, e)
		}
	}
}
