package wear_test

import (
	"slices"
	"testing"

	"millrind/api"
	"millrind/wear"
)

// deepest is a story of two cells that lose as much as may be, in each step.
func deepest() api.Story {
	s := api.Story{Start: []api.Span{{Lo: -api.MaxHeight, Hi: api.MaxHeight}, {Lo: -api.MaxHeight, Hi: api.MaxHeight}}}
	for range api.MaxSteps {
		s.Steps = append(s.Steps, api.Step{Kind: api.StepStroke, Times: []int{api.MaxStrokes, api.MaxStrokes}, Deep: api.Span{Lo: 0, Hi: api.MaxHeight}})
	}
	return s
}

// R5, P4.1: the greatest strokes in the most steps are reckoned exactly.
func TestDeepestStrokes(t *testing.T) {
	s := deepest()
	most := 64 * 100000 * 1000000000
	wantSpans(t, "Heights", must[[]api.Span](t, "Heights")(wear.Heights(s, 64)), slices.Repeat([]api.Span{{Lo: -1000000000 - most, Hi: 1000000000}}, 2))
	if x := must[api.Span](t, "Relation")(wear.Relation(s, 64, 0, 1)); x != (api.Span{Lo: -2000000000 - most, Hi: 2000000000 + most}) {
		t.Errorf("Relation: %v", x)
	}
	l := must[[]api.Bound](t, "Path")(wear.Path(s, nil, 64, 1, false))
	if n := must[int](t, "CheckPath")(wear.CheckPath(s, nil, 64, 1, false, l)); n != -1000000000-most || len(l) != 65 {
		t.Errorf("%d bounds prove %d", len(l), n)
	}
}

// ladder has as many cells as readings and one more. The first one is as high as told; each reading says that a cell is as high as the one ahead of it, at the end and at the start by turns, and the strokes between take from each cell what they take from all.
func ladder(deep int) api.Story {
	s := api.Story{Start: []api.Span{{Lo: 5, Hi: 5}}}
	for k := range 200 {
		s.Start = append(s.Start, api.Span{Lo: -api.MaxHeight, Hi: api.MaxHeight})
		s.Readings = append(s.Readings, api.Reading{Slice: (1 - k%2) * 64, A: k + 1, B: k})
	}
	for range 64 {
		s.Steps = append(s.Steps, api.Step{Kind: api.StepStroke, Times: slices.Repeat([]int{1}, 201), Deep: api.Span{Lo: deep, Hi: deep}})
	}
	return s
}

// P4.1, P4.4: the longest paths go through all cells that were read, and all of their slices; the bounds prove the end, and there are not too many of them.
func TestLongPaths(t *testing.T) {
	s := ladder(3)
	s.Steps[7].Deep = api.Span{Lo: 2, Hi: 4}
	for _, high := range []bool{false, true} {
		want := 5 + 2*100
		if !high {
			want = 5 - 2*100
		}
		l := must[[]api.Bound](t, "Path")(wear.Path(s, nil, 0, 200, high))
		if n := must[int](t, "CheckPath")(wear.CheckPath(s, nil, 0, 200, high, l)); n != want || len(l) != 1+200*65 {
			t.Errorf("%d bounds prove %d, want %d", len(l), n, want)
		}
	}
}

// P4.1, P4.3, R5: a world that dies only of all readings together, and one in which sums would soon wrap around, have loops.
func TestLongLoops(t *testing.T) {
	s := ladder(3)
	s.Readings = s.Readings[:199]
	s.Readings = append(s.Readings, api.Reading{Slice: 64, A: 0, B: 199, Diff: api.Span{Lo: 1, Hi: 1}})
	l := must[[]api.Bound](t, "Loop")(wear.Loop(s, nil))
	if !must[bool](t, "CheckLoop")(wear.CheckLoop(s, nil, l)) {
		t.Errorf("%d bounds are no loop", len(l))
	}
	s = ladder(1000000000)
	for i := range s.Steps {
		for c := range s.Start {
			s.Steps[i].Times[c] = c % 2 * 100000
		}
	}
	for k := range s.Readings {
		s.Readings[k].Diff = api.Span{Lo: -1 << 40, Hi: 1 << 40}
	}
	l = must[[]api.Bound](t, "Loop")(wear.Loop(s, nil))
	if !must[bool](t, "CheckLoop")(wear.CheckLoop(s, nil, l)) {
		t.Errorf("%d bounds are no loop", len(l))
	}
}

// full is a story of as many cells, steps, readings and worlds as may be, which lives in the world {8, 18} at least.
func full() api.Story {
	s := flat(4096, 0, 0, 0)
	s.Heaps = []api.Span{{Lo: 1, Hi: 16}, {Lo: 10, Hi: 25}}
	for c := range s.Start {
		s.Start[c] = api.Span{Lo: 1000000 - c*7%500, Hi: 1000000}
	}
	for i := range 64 {
		x := api.Step{Kind: api.StepPass, Heap: i % 2}
		if i%3 == 0 {
			x = api.Step{Kind: api.StepStroke, Deep: api.Span{Lo: 1, Hi: 2}}
		}
		for c := range s.Start {
			x.Times = append(x.Times, (c*31+i*17)%50)
		}
		s.Steps = append(s.Steps, x)
	}
	h := modelHeights(s, []int{8, 18})
	for k := range 200 {
		slice, a, b := k*13%65, k*41%4096, k*97%4096
		d := h[slice][a] - h[slice][b]
		if a == b || k%20 == 0 {
			b, d = -1, h[slice][a]
		}
		s.Readings = append(s.Readings, api.Reading{Slice: slice, A: a, B: b, Diff: api.Span{Lo: d - k*k%3000, Hi: d + 2000}})
	}
	return s
}

// modelHeights are the heights of cells that start highest and lose least.
func modelHeights(s api.Story, world []int) [][]int {
	h := [][]int{nil}
	for _, x := range s.Start {
		h[0] = append(h[0], x.Hi)
	}
	for i := range s.Steps {
		var row []int
		for c, n := range h[i] {
			row = append(row, n-losses(s, world, i, c).Lo)
		}
		h = append(h, row)
	}
	return h
}

// P4.1, P4.2, P4.4: all of it holds for stories that are as large as may be; that the ends are right is proved by heights that have them, and by paths.
func TestFullStory(t *testing.T) {
	s := full()
	worlds := must[[][]int](t, "Living")(wear.Living(s))
	if !slices.ContainsFunc(worlds, func(w []int) bool { return slices.Equal(w, []int{8, 18}) }) || len(worlds) == 256 {
		t.Errorf("%d worlds live", len(worlds))
	}
	spans := must[[]api.Span](t, "Heights")(wear.Heights(s, 40))
	hull := slices.Clone(spans)
	for c := range hull {
		hull[c] = api.Span{Lo: 1 << 60, Hi: -1 << 60}
	}
	for _, w := range worlds {
		for c, x := range must[[]api.Span](t, "Within")(wear.Within(s, w, 40)) {
			hull[c] = api.Span{Lo: min(hull[c].Lo, x.Lo), Hi: max(hull[c].Hi, x.Hi)}
		}
	}
	wantSpans(t, "Heights", spans, hull)
	low := must[[][]int](t, "Lowest")(wear.Lowest(s, worlds[0]))
	high := must[[][]int](t, "Highest")(wear.Highest(s, worlds[0]))
	if !must[bool](t, "Keeps")(wear.Keeps(s, worlds[0], low)) || !must[bool](t, "Keeps")(wear.Keeps(s, worlds[0], high)) {
		t.Error("Lowest or Highest does not keep all bounds")
	}
	for _, cell := range []int{0, 41, 97, 4095} {
		for _, isHigh := range []bool{false, true} {
			l := must[[]api.Case](t, "Prove")(wear.Prove(s, 40, cell, isHigh))
			if n := must[int](t, "CheckCases")(wear.CheckCases(s, 40, cell, isHigh, l)); n != endOf(spans[cell], isHigh) {
				t.Errorf("cases for the cell %d prove %d of %v", cell, n, spans[cell])
			}
		}
	}
}
