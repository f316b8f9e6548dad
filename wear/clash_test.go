package wear_test

import (
	"math/rand"
	"reflect"
	"slices"
	"testing"

	"millrind/api"
	"millrind/wear"
)

// P4.1, W21: the example of the chapter, and a story that lives.
func TestExampleClash(t *testing.T) {
	wantInts(t, "Clash", must[[]int](t, "Clash")(wear.Clash(contradictory())), []int{1})
	l, e := wear.Clash(example())
	if wantError(t, "Clash of a story that lives", e, api.ErrNone); len(l) > 0 {
		t.Errorf("Clash of a story that lives: %v", l)
	}
}

// P4.1, W20: Only returns the story with the readings that are listed, in new memory.
func TestOnly(t *testing.T) {
	s := base()
	for _, x := range [][]int{nil, {0}, {1}, {0, 1}} {
		want := clone(s)
		want.Readings = nil
		for _, i := range x {
			want.Readings = append(want.Readings, s.Readings[i])
		}
		o := must[api.Story](t, "Only")(wear.Only(s, x))
		if !reflect.DeepEqual(o, want) {
			t.Errorf("Only(%v): %+v", x, o)
		}
		o.Start[0].Hi, o.Heaps[0].Hi, o.Steps[0].Times[0] = 77, 77, 77
		if !reflect.DeepEqual(s, base()) {
			t.Errorf("Only(%v) shares memory with the story", x)
		}
	}
	for _, x := range [][]int{{-1}, {2}, {0, 0}, {1, 0}, {0, 1, 2}} {
		o, e := wear.Only(s, x)
		if wantError(t, "Only", e, api.ErrArg); !reflect.DeepEqual(o, api.Story{}) {
			t.Errorf("Only(%v): %+v", x, o)
		}
	}
}

// modelClash goes through all sets of readings.
func modelClash(s api.Story) []int {
	var best []int
	for bits := range 1 << len(s.Readings) {
		var set []int
		o := clone(s)
		o.Readings = nil
		for i, x := range s.Readings {
			if bits>>i&1 == 1 {
				set = append(set, i)
				o.Readings = append(o.Readings, x)
			}
		}
		smaller := best == nil || len(set) < len(best) || len(set) == len(best) && slices.Compare(set, best) < 0
		if smaller && len(livingOf(o)) == 0 {
			best = set
		}
	}
	return best
}

// quarrel is a story of more cells and readings, of which single ones seldom contradict it.
func quarrel(rng *rand.Rand) api.Story {
	s := small(rng)
	s.Start, s.Steps, s.Readings = nil, nil, nil
	for range 4 {
		s.Start = append(s.Start, span(rng, -10, 11, 20))
	}
	for range 2 {
		s.Steps = append(s.Steps, smallStep(rng, s))
	}
	for range 4 + rng.Intn(4) {
		x := smallReading(rng, s)
		x.Diff = span(rng, -12, 15, 9)
		s.Readings = append(s.Readings, x)
	}
	return s
}

// P4.1, P4.8, P0.4, W21: Clash returns the first one of the smallest sets of readings with which alone no world lives, and ErrNone if one does with all.
func TestClash(t *testing.T) {
	rng := rand.New(rand.NewSource(21))
	sizes := map[int]int{}
	for range 250 {
		s := quarrel(rng)
		want := modelClash(s)
		sizes[len(want)]++
		l, e := wear.Clash(s)
		if want == nil {
			wantError(t, "Clash of a story that lives", e, api.ErrNone)
		} else {
			wantError(t, "Clash", e, api.OK)
		}
		if wantInts(t, "Clash", l, want); t.Failed() {
			t.Fatalf("the story is %+v", s)
		}
	}
	if sizes[0] < 10 || sizes[1] < 10 || sizes[2] < 10 || sizes[3] < 1 {
		t.Errorf("the sizes of the sets are %v", sizes)
	}
}

// P4.8: what Clash returns does not live alone, but does with any one of it left out; the whole story does not live.
func TestClashIsNeeded(t *testing.T) {
	rng := rand.New(rand.NewSource(8))
	n := 0
	for range 300 {
		s := quarrel(rng)
		set, e := wear.Clash(s)
		if e != api.OK {
			continue
		}
		n++
		_, e = wear.Living(s)
		wantError(t, "the whole story", e, api.ErrClash)
		_, e = wear.Living(must[api.Story](t, "Only")(wear.Only(s, set)))
		wantError(t, "the set alone", e, api.ErrClash)
		for i := range set {
			_, e = wear.Living(must[api.Story](t, "Only")(wear.Only(s, slices.Delete(slices.Clone(set), i, i+1))))
			wantError(t, "the set without one", e, api.OK)
		}
	}
	if n < 100 {
		t.Errorf("%d contradictions are too few", n)
	}
}

// ringOf has as many readings as told, each of which says that a cell is higher than the next one, and the last one that the last cell is higher than the first one.
func ringOf(n int) api.Story {
	s := api.Story{Heaps: []api.Span{{Lo: 1, Hi: 16}, {Lo: 1, Hi: 16}}}
	for i := range n {
		s.Start = append(s.Start, api.Span{Lo: 0, Hi: 100})
		s.Readings = append(s.Readings, api.Reading{A: i, B: (i + 1) % n, Diff: api.Span{Lo: 1, Hi: 5}})
	}
	return s
}

// P4.1, W21: twelve readings may be all needed, in 256 worlds; thirteen are too many, and so are too many worlds; of several smallest sets it is the first one.
func TestClashLimits(t *testing.T) {
	wantInts(t, "12 readings", must[[]int](t, "Clash")(wear.Clash(ringOf(12))), []int{0, 1, 2, 3, 4, 5, 6, 7, 8, 9, 10, 11})
	_, e := wear.Clash(ringOf(13))
	wantError(t, "13 readings", e, api.ErrLimit)
	for _, all := range []bool{false, true} {
		_, e = wear.Clash(wideStory(all))
		wantError(t, "a wide story", e, api.ErrLimit)
	}
	s := ringOf(3)
	s.Readings = append(s.Readings,
		api.Reading{A: 1, B: 0, Diff: api.Span{Lo: 0, Hi: 9}},
		api.Reading{A: 0, B: -1, Diff: api.Span{Lo: 0, Hi: 9}},
		api.Reading{A: 1, B: -1, Diff: api.Span{Lo: 9, Hi: 20}})
	wantInts(t, "three sets of two", must[[]int](t, "Clash")(wear.Clash(s)), []int{0, 3})
}

// P4.1, W21: worlds that die of different readings make a contradiction only together.
func TestClashOfWorlds(t *testing.T) {
	s := api.Story{
		Start: []api.Span{{Lo: 0, Hi: 100}, {Lo: 100, Hi: 100}, {Lo: 100, Hi: 100}, {Lo: 100, Hi: 100}},
		Heaps: []api.Span{{Lo: 1, Hi: 3}},
		Steps: []api.Step{{Kind: api.StepPass, Times: []int{1, 1, 10, 100}}},
		Readings: []api.Reading{
			{Slice: 1, A: 1, B: -1, Diff: api.Span{Lo: 97, Hi: 99}},      // any hardness
			{Slice: 1, A: 2, B: -1, Diff: api.Span{Lo: 0, Hi: 80}},       // 2 or 3
			{Slice: 1, A: 3, B: -1, Diff: api.Span{Lo: -100, Hi: 0}},     // 1 or 2
			{Slice: 1, A: 2, B: 3, Diff: api.Span{Lo: 181, Hi: 300}},     // 3
			{Slice: 1, A: 3, B: 2, Diff: api.Span{Lo: -90, Hi: 0}},       // 1
			{Slice: 0, A: 0, B: -1, Diff: api.Span{Lo: -50, Hi: 1 << 9}}, // any hardness
		},
	}
	wantInts(t, "Clash", must[[]int](t, "Clash")(wear.Clash(s)), []int{1, 4})
	s.Readings[4] = s.Readings[0]
	wantInts(t, "Clash", must[[]int](t, "Clash")(wear.Clash(s)), []int{2, 3})
}
