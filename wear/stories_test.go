package wear_test

import (
	"math/rand"
	"slices"
	"testing"

	"millrind/api"
	"millrind/wear"
)

// example is the story of the chapter's examples.
func example() api.Story {
	return api.Story{
		Start:    []api.Span{{Lo: 100, Hi: 100}, {Lo: 90, Hi: 110}},
		Heaps:    []api.Span{{Lo: 2, Hi: 4}},
		Steps:    []api.Step{{Kind: api.StepPass, Times: []int{5, 10}}},
		Readings: []api.Reading{{Slice: 1, A: 0, B: 1, Diff: api.Span{Lo: 0, Hi: 3}}},
	}
}

// contradictory is the example with the reading that contradicts the rest.
func contradictory() api.Story {
	s := example()
	s.Readings = append(s.Readings, api.Reading{Slice: 1, A: 0, B: 1, Diff: api.Span{Lo: 50, Hi: 60}})
	return s
}

// wideStory has 257 worlds, or as many as 255 to the power of 8.
func wideStory(all bool) api.Story {
	s := example()
	s.Heaps = []api.Span{{Lo: 2, Hi: 4}, {Lo: 1, Hi: 255}}
	if all {
		s.Heaps = slices.Repeat([]api.Span{{Lo: 1, Hi: 255}}, 8)
	}
	return s
}

func span(rng *rand.Rand, least, width, more int) api.Span {
	lo := least + rng.Intn(width)
	return api.Span{Lo: lo, Hi: lo + rng.Intn(more)}
}

// small is a story of few cells, steps and worlds, whose heights can all be gone through; tight readings contradict one another more often.
func small(rng *rand.Rand) api.Story {
	var s api.Story
	cells := 1 + rng.Intn(3)
	steps := rng.Intn(3)
	if cells == 3 {
		steps = min(steps, 1)
	}
	for range cells {
		s.Start = append(s.Start, span(rng, -3, 6, 3))
	}
	for range rng.Intn(3) {
		s.Heaps = append(s.Heaps, span(rng, 1, 2, 3))
	}
	for range steps {
		s.Steps = append(s.Steps, smallStep(rng, s))
	}
	for range rng.Intn(5) {
		s.Readings = append(s.Readings, smallReading(rng, s))
	}
	return s
}

func smallStep(rng *rand.Rand, s api.Story) api.Step {
	x := api.Step{Kind: api.StepStroke, Deep: span(rng, 0, 2, 3)}
	if len(s.Heaps) > 0 && rng.Intn(2) == 0 {
		x = api.Step{Kind: api.StepPass, Heap: rng.Intn(len(s.Heaps))}
	}
	for range s.Start {
		x.Times = append(x.Times, rng.Intn(3))
	}
	return x
}

func smallReading(rng *rand.Rand, s api.Story) api.Reading {
	x := api.Reading{Slice: rng.Intn(len(s.Steps) + 1), A: rng.Intn(len(s.Start)), B: rng.Intn(len(s.Start)), Diff: span(rng, -7, 11, 6)}
	if x.A == x.B {
		x.B = -1
	}
	return x
}

// smalls are many small stories, always the same ones.
func smalls(count int) []api.Story {
	rng := rand.New(rand.NewSource(4))
	l := []api.Story{example(), contradictory()}
	for range count {
		l = append(l, small(rng))
	}
	return l
}

func clone(s api.Story) api.Story {
	o := api.Story{Start: slices.Clone(s.Start), Heaps: slices.Clone(s.Heaps), Readings: slices.Clone(s.Readings)}
	for _, x := range s.Steps {
		x.Times = slices.Clone(x.Times)
		o.Steps = append(o.Steps, x)
	}
	return o
}

// eachWorld calls a function for each world of each small story, with what the model says of it.
func eachWorld(t *testing.T, count int, f func(s api.Story, m model)) {
	t.Helper()
	living, dead := 0, 0
	for _, s := range smalls(count) {
		for _, w := range worldsOf(s) {
			m := modelOf(s, w)
			if m.lives {
				living++
			} else {
				dead++
			}
			f(s, m)
		}
		if t.Failed() {
			t.Fatalf("the story is %+v", s)
		}
	}
	if living < count/4 || dead < count/4 {
		t.Errorf("%d living worlds and %d dead ones are too few", living, dead)
	}
}

// eachLiving calls a function for each small story that lives, with what the model says of its worlds that live.
func eachLiving(t *testing.T, count int, f func(s api.Story, l []model)) {
	t.Helper()
	n := 0
	for _, s := range smalls(count) {
		l := livingOf(s)
		if len(l) == 0 {
			continue
		}
		n++
		if f(s, l); t.Failed() {
			t.Fatalf("the story is %+v", s)
		}
	}
	if n < count/4 {
		t.Errorf("%d living stories are too few", n)
	}
}

func must[T any](t *testing.T, what string) func(T, api.Errno) T {
	return func(v T, e api.Errno) T {
		t.Helper()
		if e != api.OK {
			t.Fatalf("%s: error %d", what, e)
		}
		return v
	}
}

func wantInts(t *testing.T, what string, got, want []int) {
	t.Helper()
	if !slices.Equal(got, want) {
		t.Errorf("%s: got %v, want %v", what, got, want)
	}
}

func wantLists(t *testing.T, what string, got, want [][]int) {
	t.Helper()
	if !slices.EqualFunc(got, want, slices.Equal) {
		t.Errorf("%s: got %v, want %v", what, got, want)
	}
}

func wantSpans(t *testing.T, what string, got, want []api.Span) {
	t.Helper()
	if !slices.Equal(got, want) {
		t.Errorf("%s: got %v, want %v", what, got, want)
	}
}

func wantBounds(t *testing.T, what string, got, want []api.Bound) {
	t.Helper()
	if !slices.Equal(got, want) {
		t.Errorf("%s: got %v, want %v", what, got, want)
	}
}

func wantError(t *testing.T, what string, got, want api.Errno) {
	t.Helper()
	if got != want {
		t.Errorf("%s: error %d, want %d", what, got, want)
	}
}

// endOf returns an end of a span.
func endOf(x api.Span, high bool) int {
	if high {
		return x.Hi
	}
	return x.Lo
}

// heightsOf are the spans of all cells at all slices of a story that lives.
func heightsOf(t *testing.T, s api.Story) [][]api.Span {
	t.Helper()
	var l [][]api.Span
	for slice := range len(s.Steps) + 1 {
		l = append(l, must[[]api.Span](t, "Heights")(wear.Heights(s, slice)))
	}
	return l
}
