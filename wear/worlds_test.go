package wear_test

import (
	"slices"
	"testing"

	"millrind/api"
	"millrind/wear"
)

// P4.1, W2, W3, W5, W6: the examples of the chapter.
func TestExampleWorlds(t *testing.T) {
	s := example()
	wantLists(t, "Worlds", must[[][]int](t, "Worlds")(wear.Worlds(s)), [][]int{{2}, {3}, {4}})
	wantLists(t, "Living", must[[][]int](t, "Living")(wear.Living(s)), [][]int{{2}})
	wantInts(t, "Hardness", must[[]int](t, "Hardness")(wear.Hardness(s, 0)), []int{2})
	wantBounds(t, "Bounds", must[[]api.Bound](t, "Bounds")(wear.Bounds(s, []int{2})), []api.Bound{
		{From: -1, To: 0, Most: 100, Kind: api.BoundStart},
		{From: 0, To: -1, Most: -100, Kind: api.BoundStart},
		{From: -1, To: 1, Most: 110, Kind: api.BoundStart, ID: 1},
		{From: 1, To: -1, Most: -90, Kind: api.BoundStart, ID: 1},
		{From: 0, To: 0, ToAt: 1, Most: -10, Kind: api.BoundStep},
		{From: 0, FromAt: 1, To: 0, Most: 10, Kind: api.BoundStep},
		{From: 1, To: 1, ToAt: 1, Most: -20, Kind: api.BoundStep},
		{From: 1, FromAt: 1, To: 1, Most: 20, Kind: api.BoundStep},
		{From: 1, FromAt: 1, To: 0, ToAt: 1, Most: 3, Kind: api.BoundReading},
		{From: 0, FromAt: 1, To: 1, ToAt: 1, Most: 0, Kind: api.BoundReading},
	})
}

// P4.1, W3: the bounds of strokes have both ends of their depth, and a reading of one cell is one of the ground at the slice 0.
func TestBoundsOfStrokes(t *testing.T) {
	s := api.Story{
		Start:    []api.Span{{Lo: -5, Hi: 7}},
		Steps:    []api.Step{{Kind: api.StepStroke, Times: []int{3}, Deep: api.Span{Lo: 2, Hi: 4}}},
		Readings: []api.Reading{{Slice: 1, A: 0, B: -1, Diff: api.Span{Lo: -9, Hi: 1}}},
	}
	wantBounds(t, "Bounds", must[[]api.Bound](t, "Bounds")(wear.Bounds(s, nil)), []api.Bound{
		{From: -1, To: 0, Most: 7, Kind: api.BoundStart},
		{From: 0, To: -1, Most: 5, Kind: api.BoundStart},
		{From: 0, To: 0, ToAt: 1, Most: -6, Kind: api.BoundStep},
		{From: 0, FromAt: 1, To: 0, Most: 12, Kind: api.BoundStep},
		{From: -1, To: 0, ToAt: 1, Most: 1, Kind: api.BoundReading},
		{From: 0, FromAt: 1, To: -1, Most: 9, Kind: api.BoundReading},
	})
}

// P4.1, W2: a story without heaps has one world, the empty list; the worlds of several heaps are ordered as lists, up to 256 of them.
func TestWorldsInOrder(t *testing.T) {
	s := example()
	s.Heaps = []api.Span{{Lo: 2, Hi: 3}, {Lo: 7, Hi: 7}, {Lo: 1, Hi: 2}}
	wantLists(t, "three heaps", must[[][]int](t, "Worlds")(wear.Worlds(s)), [][]int{{2, 7, 1}, {2, 7, 2}, {3, 7, 1}, {3, 7, 2}})
	s.Steps[0] = api.Step{Kind: api.StepStroke, Times: []int{1, 1}}
	s.Heaps = nil
	wantLists(t, "no heaps", must[[][]int](t, "Worlds")(wear.Worlds(s)), [][]int{nil})
	if is, e := wear.Closes(s, []int{}); e != api.OK || !is {
		t.Errorf("Closes of the empty world: %v, error %d", is, e)
	}
	s.Heaps = []api.Span{{Lo: 5, Hi: 132}, {Lo: 1, Hi: 2}}
	if l := must[[][]int](t, "Worlds")(wear.Worlds(s)); len(l) != 256 || !slices.Equal(l[255], []int{132, 2}) {
		t.Errorf("128 times 2 worlds are %d", len(l))
	}
}

// P4.1, W2 to W6: worlds, bounds, and which worlds live, are what the chapter's terms say on small stories.
func TestWorldsOfSmallStories(t *testing.T) {
	eachWorld(t, 400, func(s api.Story, m model) {
		wantBounds(t, "Bounds", must[[]api.Bound](t, "Bounds")(wear.Bounds(s, m.world)), m.bounds)
		if is := must[bool](t, "Closes")(wear.Closes(s, m.world)); is != m.lives {
			t.Errorf("Closes(%v): %v", m.world, is)
		}
	})
	eachLiving(t, 400, func(s api.Story, l []model) {
		wantLists(t, "Worlds", must[[][]int](t, "Worlds")(wear.Worlds(s)), worldsOf(s))
		var worlds [][]int
		for _, m := range l {
			worlds = append(worlds, m.world)
		}
		wantLists(t, "Living", must[[][]int](t, "Living")(wear.Living(s)), worlds)
		for heap := range s.Heaps {
			var hard []int
			for _, w := range worlds {
				hard = append(hard, w[heap])
			}
			slices.Sort(hard)
			wantInts(t, "Hardness", must[[]int](t, "Hardness")(wear.Hardness(s, heap)), slices.Compact(hard))
		}
	})
}

// P4.1, W6: the hardnesses of a heap are increasing, each once, also where the heap ahead of it makes them come again.
func TestHardnessOfTheSecondHeap(t *testing.T) {
	s := example()
	s.Heaps = []api.Span{{Lo: 2, Hi: 3}, {Lo: 4, Hi: 6}}
	s.Readings = nil
	wantInts(t, "Hardness", must[[]int](t, "Hardness")(wear.Hardness(s, 1)), []int{4, 5, 6})
	s.Readings = []api.Reading{{Slice: 1, A: 0, B: -1, Diff: api.Span{Lo: 0, Hi: 85}}}
	wantInts(t, "Hardness", must[[]int](t, "Hardness")(wear.Hardness(s, 0)), []int{3})
}

// P4.1, Errors: whether a story is wide depends on how many worlds there are, not on how many hardnesses.
func TestHowManyWorlds(t *testing.T) {
	for _, x := range []struct {
		most []int
		want api.Errno
	}{
		{[]int{255, 1, 1}, api.OK},
		{[]int{16, 16}, api.OK},
		{[]int{2, 2, 2, 2, 2, 2, 2, 2}, api.OK},
		{[]int{17, 16}, api.ErrLimit},
		{[]int{7, 7, 7}, api.ErrLimit},
		{[]int{3, 2, 2, 2, 2, 2, 2, 2}, api.ErrLimit},
	} {
		var s api.Story
		s.Start = []api.Span{{}}
		worlds := 1
		for _, n := range x.most {
			s.Heaps = append(s.Heaps, api.Span{Lo: 1, Hi: n})
			worlds *= n
		}
		l, e := wear.Worlds(s)
		if wantError(t, "Worlds", e, x.want); e == api.OK && len(l) != worlds {
			t.Errorf("%v make %d worlds", x.most, len(l))
		}
	}
}
