package history

import (
	"slices"

	"millrind/api"
	"millrind/crossing"
)

// StrokesOn returns how often strokes covered each cell of a ring.
func StrokesOn(f api.Frame, r api.Register, stone, ring int) ([]int, api.Errno) {
	if !frame(f).isValid() || !frame(f).registers(r) || !frame(f).hasLine(stone, ring) {
		return nil, api.ErrArg
	}
	covers := make([]int, f.Sectors)
	for _, x := range r.Events {
		if n := x.Note; n.Kind == api.NoteStrokes && n.Stone == stone && n.Ring == ring {
			frame(f).cover(covers, n.Strokes)
		}
	}
	return covers, api.OK
}

// StoryOf returns the story of a stone.
func StoryOf(b api.Base, r api.Register, stone int) (api.Story, api.Errno) {
	f, e := FrameOf(b)
	if e != api.OK {
		return api.Story{}, e
	}
	if !frame(f).registers(r) || !isStone(stone) {
		return api.Story{}, api.ErrArg
	}
	s := api.Story{Start: slices.Clone(b.Start[stone])}
	for _, x := range r.Heaps {
		s.Heaps = append(s.Heaps, x.Note.Hard)
	}
	cuts := cutsOf(b, stone)
	for _, x := range r.Events {
		switch n := x.Note; {
		case n.Kind == api.NotePass:
			heap, _ := HeapOf(r, n.Ref)
			s.Steps = append(s.Steps, api.Step{Kind: api.StepPass, Heap: heap, Times: times(n.Turns, cuts)})
		case n.Stone != stone:
		case n.Kind == api.NoteStrokes:
			s.Steps = append(s.Steps, api.Step{Kind: api.StepStroke, Times: frame(f).timesOf(n), Deep: b.Deep})
		case n.Kind == api.NoteReading:
			s.Readings = append(s.Readings, api.Reading{Slice: len(s.Steps), A: n.A, B: n.B, Diff: n.Diff})
		}
	}
	if len(s.Steps) > api.MaxSteps || len(s.Readings) > api.MaxReadings {
		return api.Story{}, api.ErrLimit
	}
	return s, api.OK
}

// cutsOf returns how often each cell of a stone cuts in a turn of the runner.
func cutsOf(b api.Base, stone int) []int {
	count := crossing.Counts
	if stone == api.RunStone {
		count = crossing.RunnerCounts
	}
	cuts, _ := count(b.Pair)
	return cuts
}

func times(n int, l []int) []int {
	product := make([]int, len(l))
	for i := range l {
		product[i] = n * l[i]
	}
	return product
}

// timesOf returns how often the strokes of a note cover each cell of their stone.
func (f frame) timesOf(n api.Note) []int {
	covers := make([]int, f.Rings*f.Sectors)
	f.cover(covers[n.Ring*f.Sectors:], n.Strokes)
	return covers
}

// cover adds the strokes with these first sectors to what covers the cells of a ring.
func (f frame) cover(ring, firsts []int) {
	for _, first := range firsts {
		for sector := range f.Wide {
			ring[first+sector]++
		}
	}
}
