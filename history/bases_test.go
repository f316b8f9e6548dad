package history_test

import (
	"math"
	"math/rand"
	"reflect"
	"slices"
	"testing"

	"millrind/api"
	"millrind/history"
)

// aBase is a base with stones of the frame: the bed has a furrow, and the runner two; land cuts on land at each step, and land on a feather may.
func aBase() api.Base {
	b := api.Base{
		Pair: api.Pair{
			Bed:    api.Face{Eye: 1, Rings: 2, Sectors: 4, Kinds: []int{0, 1, 0, 0, 0, 1, 2, 0}},
			Runner: api.Face{Eye: 1, Rings: 2, Sectors: 4, Kinds: []int{0, 0, 1, 2, 1, 0, 0, 0}},
		},
		Lift: 220, Top: 30, Grades: []int{0, 1, 3}, Size: span(1, 9), Deep: span(2, 3), Wide: 2,
		Crew:    api.Crew{Caps: []int{5, 3}, Reach: [][]int{{0, 1, 3}, {2}}},
		Compass: []api.Point{{X: 1}, {Y: 1}, {X: -1}, {Y: -1}},
		Pockets: []api.Pocket{{Arm: api.Point{X: -6}, Most: 3}, {Arm: api.Point{Y: 7}, Most: 2}},
		Tol:     4,
		Train:   api.Train{Meshes: []api.Mesh{{Driver: 12, Driven: 8, Play: 100}, {Driver: 10, Driven: 4}}},
		Houses:  3,
	}
	for kinds := range 9 {
		moves := []api.Move{{Out: 1}}
		switch kinds {
		case 0:
			moves = []api.Move{{Out: 1, Cut: true}}
		case 2:
			moves = []api.Move{{Out: 1, Side: -1}, {Out: 1, Side: 0, Cut: true}}
		}
		b.Pair.Drive = append(b.Pair.Drive, moves)
	}
	for stone := range 2 {
		for cell := range 8 {
			b.Start[stone] = append(b.Start[stone], span(90+cell+stone, 100+cell))
			b.Aim[stone] = append(b.Aim[stone], span(60+cell, 90-stone))
		}
	}
	return b
}

// withBase returns the base with a change.
func withBase(change func(b *api.Base)) api.Base {
	b := aBase()
	change(&b)
	return b
}

// flatBase is a base of stones of a size, all land, with spans of one height.
func flatBase(rings, sectors int) api.Base {
	b := aBase()
	f := api.Face{Eye: 16, Rings: rings, Sectors: sectors, Kinds: make([]int, rings*sectors)}
	b.Pair.Bed, b.Pair.Runner = f, f
	for stone := range 2 {
		b.Start[stone] = make([]api.Span, rings*sectors)
		b.Aim[stone] = make([]api.Span, rings*sectors)
	}
	b.Crew, b.Compass = api.Crew{}, make([]api.Point, sectors)
	return b
}

// badBases are bases that are not valid, each for one of its conditions.
func badBases() map[string]func(b *api.Base) {
	stay := func(b *api.Base) { b.Pair.Drive = slices.Repeat([][]api.Move{{{Cut: true}, {Out: 1}}}, 9) }
	return map[string]func(b *api.Base){
		"nothing":                      func(b *api.Base) { *b = api.Base{} },
		"1: no bed":                    func(b *api.Base) { b.Pair.Bed = api.Face{} },
		"1: a runner of another eye":   func(b *api.Base) { b.Pair.Runner.Eye = 2 },
		"1: no drive":                  func(b *api.Base) { b.Pair.Drive = nil },
		"1: a list without moves":      func(b *api.Base) { b.Pair.Drive[8] = nil },
		"1: a large pair":              func(b *api.Base) { *b = flatBase(24, 53) },
		"1: a pair that is not free":   stay,
		"1: a face beyond all":         func(b *api.Base) { b.Pair.Bed.Rings, b.Pair.Bed.Sectors = math.MaxInt, math.MaxInt },
		"2: a lift below 0":            func(b *api.Base) { b.Lift = -1 },
		"2: a lift too great":          func(b *api.Base) { b.Lift = 1000000001 },
		"2: a top below 0":             func(b *api.Base) { b.Top = -1 },
		"2: a top too great":           func(b *api.Base) { b.Top = 1000000001 },
		"2: no grades":                 func(b *api.Base) { b.Grades = nil },
		"2: too many grades":           func(b *api.Base) { b.Grades = []int{0, 1, 2, 3, 4, 5, 6, 7, 8} },
		"2: a first grade of 1":        func(b *api.Base) { b.Grades = []int{1, 2} },
		"2: a first grade below 0":     func(b *api.Base) { b.Grades = []int{-1, 0} },
		"2: two grades of 0":           func(b *api.Base) { b.Grades = []int{0, 0} },
		"2: a second grade below 0":    func(b *api.Base) { b.Grades = []int{0, -1, 2} },
		"2: equal grades":              func(b *api.Base) { b.Grades = []int{0, 3, 3} },
		"2: grades that decrease":      func(b *api.Base) { b.Grades = []int{0, 5, 4} },
		"2: a grade too great":         func(b *api.Base) { b.Grades = []int{0, 65} },
		"2: no size":                   func(b *api.Base) { b.Size = span(0, 9) },
		"2: an inverted size":          func(b *api.Base) { b.Size = span(9, 8) },
		"2: a size too great":          func(b *api.Base) { b.Size = span(1, 4096) },
		"3: no start of the bed":       func(b *api.Base) { b.Start[0] = nil },
		"3: too short a start":         func(b *api.Base) { b.Start[1] = b.Start[1][:7] },
		"3: too long a start":          func(b *api.Base) { b.Start[1] = append(b.Start[1], api.Span{}) },
		"3: an inverted start":         func(b *api.Base) { b.Start[0][7] = span(3, 2) },
		"3: a start too low":           func(b *api.Base) { b.Start[0][0].Lo = -100001 },
		"3: a start too high":          func(b *api.Base) { b.Start[1][7].Hi = 100001 },
		"3: no aim of the runner":      func(b *api.Base) { b.Aim[1] = nil },
		"3: too short an aim":          func(b *api.Base) { b.Aim[0] = b.Aim[0][:7] },
		"3: too long an aim":           func(b *api.Base) { b.Aim[0] = append(b.Aim[0], api.Span{}) },
		"3: an inverted aim":           func(b *api.Base) { b.Aim[1][0] = span(3, 2) },
		"3: an aim too low":            func(b *api.Base) { b.Aim[1][7].Lo = -100001 },
		"3: an aim too high":           func(b *api.Base) { b.Aim[0][0].Hi = 100001 },
		"3: no depth":                  func(b *api.Base) { b.Deep = span(0, 3) },
		"3: an inverted depth":         func(b *api.Base) { b.Deep = span(3, 2) },
		"3: too deep":                  func(b *api.Base) { b.Deep = span(1, 100001) },
		"3: no width":                  func(b *api.Base) { b.Wide = 0 },
		"3: too wide":                  func(b *api.Base) { b.Wide = 5 },
		"4: a crew without reach":      func(b *api.Base) { b.Crew.Reach = nil },
		"4: a dresser of no strokes":   func(b *api.Base) { b.Crew.Caps[1] = 0 },
		"4: a line too far":            func(b *api.Base) { b.Crew.Reach[1] = []int{2, 4} },
		"4: a line below 0":            func(b *api.Base) { b.Crew.Reach[1] = []int{-1} },
		"4: lines out of order":        func(b *api.Base) { b.Crew.Reach[0] = []int{1, 0} },
		"5: too short a compass":       func(b *api.Base) { b.Compass = b.Compass[:3] },
		"5: a direction too long":      func(b *api.Base) { b.Compass[0].X = 1001 },
		"5: too many pockets":          func(b *api.Base) { b.Pockets = make([]api.Pocket, 9) },
		"5: a pocket too great":        func(b *api.Base) { b.Pockets[0].Most = 256 },
		"5: a tol below 0":             func(b *api.Base) { b.Tol = -1 },
		"5: a tol too great":           func(b *api.Base) { b.Tol = 1000000000001 },
		"6: no train":                  func(b *api.Base) { b.Train = api.Train{} },
		"6: a wheel without teeth":     func(b *api.Base) { b.Train.Meshes[1].Driven = 0 },
		"6: no houses":                 func(b *api.Base) { b.Houses = 0 },
		"6: too many houses":           func(b *api.Base) { b.Houses = 9 },
		"1 and all else is beyond all": func(b *api.Base) { stay(b); b.Lift, b.Tol, b.Houses = math.MaxInt, math.MinInt, math.MaxInt },
	}
}

// P8.1, H1, H2: the conditions of a base, with the least and greatest numbers.
func TestBases(t *testing.T) {
	for what, change := range badBases() {
		wantError(t, what, history.CheckBase(withBase(change)), api.ErrBase)
	}
	for what, change := range map[string]func(b *api.Base){
		"the base":             func(b *api.Base) {},
		"no lift and no top":   func(b *api.Base) { b.Lift, b.Top = 0, 0 },
		"the greatest of both": func(b *api.Base) { b.Lift, b.Top = 1000000000, 1000000000 },
		"one grade":            func(b *api.Base) { b.Grades = []int{0} },
		"eight grades":         func(b *api.Base) { b.Grades = []int{0, 1, 2, 3, 4, 5, 6, 64} },
		"the least size":       func(b *api.Base) { b.Size = span(1, 1) },
		"the greatest size":    func(b *api.Base) { b.Size = span(4095, 4095) },
		"the widest spans": func(b *api.Base) {
			b.Start[0][0], b.Start[1][7] = span(-100000, 100000), span(100000, 100000)
			b.Aim[1][0], b.Aim[0][7] = span(-100000, 100000), span(-100000, -100000)
		},
		"the least depth":    func(b *api.Base) { b.Deep = span(1, 1) },
		"the greatest depth": func(b *api.Base) { b.Deep = span(1, 100000) },
		"the least width":    func(b *api.Base) { b.Wide = 1 },
		"the greatest width": func(b *api.Base) { b.Wide = 4 },
		"no crew":            func(b *api.Base) { b.Crew = api.Crew{} },
		"the last line":      func(b *api.Base) { b.Crew.Reach[1] = []int{0, 3} },
		"no pockets":         func(b *api.Base) { b.Pockets = nil },
		"the greatest tol":   func(b *api.Base) { b.Tol = 1000000000000 },
		"one house":          func(b *api.Base) { b.Houses = 1 },
		"all houses":         func(b *api.Base) { b.Houses = 8 },
		"a trap that is not reached": func(b *api.Base) {
			b.Pair.Bed.Kinds, b.Pair.Runner.Kinds = []int{0, 1, 0, 1, 2, 0, 2, 0}, make([]int, 8)
			b.Pair.Drive[0], b.Pair.Drive[3], b.Pair.Drive[6] = []api.Move{{Out: 1, Side: 1}}, []api.Move{{Out: 1}}, []api.Move{{}}
		},
	} {
		wantError(t, what, history.CheckBase(withBase(change)), api.OK)
	}
	want(t, "FrameOf", must[api.Frame](t, "FrameOf")(history.FrameOf(aBase())), frame())
	for _, x := range []api.Frame{{Rings: 24, Sectors: 52, Wide: 52}, {Rings: 1, Sectors: 96, Wide: 1}, {Rings: 7, Sectors: 96, Wide: 9}, {Rings: 1, Sectors: 2, Wide: 2}} {
		b := flatBase(x.Rings, x.Sectors)
		b.Wide = x.Wide
		want(t, "FrameOf", must[api.Frame](t, "FrameOf")(history.FrameOf(b)), x)
	}
}

// baseCalls are the functions of a base: each tells whether its result is zero, and its error.
func baseCalls(b api.Base, r api.Register, stone, ring int, heights []int, spans []api.Span) map[string]func() (bool, api.Errno) {
	return map[string]func() (bool, api.Errno){
		"FrameOf": func() (bool, api.Errno) { return zeroOf(history.FrameOf(b)) },
		"StoryOf": func() (bool, api.Errno) { return zeroOf(history.StoryOf(b, r, stone)) },
		"StoneOf": func() (bool, api.Errno) { return zeroOf(history.StoneOf(b, heights)) },
		"MillOf":  func() (bool, api.Errno) { return zeroOf(history.MillOf(b, heights, heights)) },
		"TaskOf":  func() (bool, api.Errno) { return zeroOf(history.TaskOf(b, spans, stone, ring)) },
	}
}

// P8.1, Errors: all functions of a base return ErrBase first, with zero values.
func TestBaseErrors(t *testing.T) {
	wrong := api.Register{Heaps: make([]api.Event, 9)}
	for what, change := range badBases() {
		b := withBase(change)
		right := baseCalls(b, api.Register{}, 0, 0, make([]int, 8), make([]api.Span, 8))
		for which, f := range baseCalls(b, wrong, 2, -1, []int{1}, nil) {
			for _, f := range []func() (bool, api.Errno){f, right[which]} {
				zero, e := f()
				wantError(t, what+": "+which, e, api.ErrBase)
				want(t, what+": "+which+" is zero", zero, true)
			}
		}
	}
	for which, f := range baseCalls(aBase(), wrong, 2, -1, []int{1}, nil) {
		zero, e := f()
		expected := api.ErrArg
		if which == "FrameOf" {
			expected = api.OK
		}
		wantError(t, which, e, expected)
		want(t, which+" is zero", zero, expected != api.OK)
	}
}

// badHeights are lists of heights that no stone of the frame has.
func badHeights() map[string][]int {
	return map[string][]int{
		"no heights": nil, "too few": make([]int, 7), "too many": make([]int, 9),
		"too low": {0, 0, 0, 0, 0, 0, 0, -100001}, "too high": {100001, 0, 0, 0, 0, 0, 0, 0}, "beyond all": {0, math.MaxInt, math.MinInt, 0, 0, 0, 0, 0},
	}
}

// P8.1, H16: the runner with heights.
func TestStoneOf(t *testing.T) {
	b := aBase()
	heights := []int{1, 2, 3, 4, 5, -100000, 100000, 0}
	want(t, "StoneOf", must[api.Stone](t, "StoneOf")(history.StoneOf(b, heights)), api.Stone{
		Face: b.Pair.Runner, Heights: heights, Compass: b.Compass, Pockets: b.Pockets, Tol: 4,
	})
	for what, l := range badHeights() {
		s, e := history.StoneOf(b, l)
		wantError(t, what, e, api.ErrArg)
		want(t, what, s, api.Stone{})
	}
}

// modelGap is the least gap above a cell of the bed, within the bounds of mills.
func modelGap(b api.Base, bed, runner []int, cell int) int {
	sectors := b.Pair.Bed.Sectors
	ring, sector := cell/sectors, cell%sectors
	gap := math.MaxInt
	for turn := range sectors {
		over := ((sector-turn)%sectors + sectors) % sectors
		gap = min(gap, b.Lift-bed[cell]-runner[ring*sectors+over])
	}
	return max(0, min(gap, b.Top, 4095))
}

func someHeights(rng *rand.Rand, count, from, to int) []int {
	var l []int
	for range count {
		l = append(l, fromTo(rng, from, to))
	}
	return l
}

// P8.1, P8.8, H17: a gap of the mill is the least one at any turn, but at least 0 and at most Top and 4095.
func TestMillOf(t *testing.T) {
	rng := rand.New(rand.NewSource(17))
	kept, below, above, top := 0, 0, 0, 0
	for range 600 {
		b := aBase()
		b.Lift, b.Top = some(rng, 0, 200, 220, 5000, 1000000000), some(rng, 0, 10, 30, 4094, 4095, 4096, 1000000000)
		bed, runner := someHeights(rng, 8, 80, 110), someHeights(rng, 8, 80, 110)
		m := must[api.Mill](t, "MillOf")(history.MillOf(b, bed, runner))
		want(t, "the pair", m.Pair, b.Pair)
		want(t, "gaps", len(m.Gap), 8)
		for cell, gap := range m.Gap {
			want(t, "a gap", gap, modelGap(b, bed, runner, cell))
			for sector := cell / 4 * 4; sector < cell/4*4+4; sector++ {
				there := b.Lift - bed[cell] - runner[sector]
				if there >= 0 && gap > there {
					t.Errorf("the gap %d of the mill is greater than %d", gap, there)
				}
			}
			switch {
			case gap == 0:
				below++
			case gap == 4095:
				above++
			case gap == b.Top:
				top++
			default:
				kept++
			}
		}
	}
	if kept < 100 || below < 100 || above < 100 || top < 100 {
		t.Errorf("too few gaps: %d, %d, %d, %d", kept, below, above, top)
	}
	low, high := slices.Repeat([]int{-100000}, 8), slices.Repeat([]int{100000}, 8)
	want(t, "the widest gap", must[api.Mill](t, "MillOf")(history.MillOf(withBase(func(b *api.Base) { b.Lift, b.Top = 1000000000, 1000000000 }), low, low)).Gap, slices.Repeat([]int{4095}, 8))
	want(t, "no gap", must[api.Mill](t, "MillOf")(history.MillOf(withBase(func(b *api.Base) { b.Lift = 0 }), high, high)).Gap, make([]int, 8))
}

// P8.1, H17, Errors: a list of heights that is none is ErrArg, whichever it is.
func TestMillErrors(t *testing.T) {
	for what, l := range badHeights() {
		for _, x := range [][2][]int{{l, low8()}, {low8(), l}, {l, l}} {
			m, e := history.MillOf(aBase(), x[0], x[1])
			wantError(t, what, e, api.ErrArg)
			want(t, what, m, api.Mill{})
		}
	}
}

func low8() []int { return make([]int, 8) }

// P8.1, R7: results are new memory, and share none within them; arguments are not changed.
func TestWorksAreNew(t *testing.T) {
	b := aBase()
	b.Pair.Runner.Kinds = b.Pair.Bed.Kinds
	heights := someHeights(rand.New(rand.NewSource(1)), 8, 80, 90)
	before, kept := deep(b), slices.Clone(heights)
	s := must[api.Stone](t, "StoneOf")(history.StoneOf(b, heights))
	m := must[api.Mill](t, "MillOf")(history.MillOf(b, heights, heights))
	first, second := deep(s), deep(m)
	r := fold(t, sample())
	story := must[api.Story](t, "StoryOf")(history.StoryOf(b, r, 0))
	spoil(reflect.ValueOf(&story))
	spoil(reflect.ValueOf(&m.Pair.Bed))
	want(t, "the runner of the mill", m.Pair.Runner, second.Pair.Runner)
	spoil(reflect.ValueOf(&m))
	want(t, "the stone", s, first)
	spoil(reflect.ValueOf(&s))
	want(t, "the base", b, before)
	want(t, "the heights", heights, kept)
	want(t, "StoneOf again", must[api.Stone](t, "StoneOf")(history.StoneOf(b, heights)), first)
	want(t, "MillOf again", must[api.Mill](t, "MillOf")(history.MillOf(b, heights, heights)), second)
	want(t, "Fold again", r, fold(t, sample()))
}

// deep returns a copy that shares no memory.
func deep[T any](x T) T { return plain(reflect.ValueOf(x)).(T) }

// spoil changes all numbers that a value holds, and what is behind the ends of its lists.
func spoil(v reflect.Value) {
	switch v.Kind() {
	case reflect.Pointer:
		spoil(v.Elem())
	case reflect.Int:
		v.SetInt(v.Int() + 7777)
	case reflect.Slice:
		all := v.Slice(0, v.Cap())
		for i := range all.Len() {
			spoil(all.Index(i))
		}
	case reflect.Array:
		for i := range v.Len() {
			spoil(v.Index(i))
		}
	case reflect.Struct:
		for i := range v.NumField() {
			spoil(v.Field(i))
		}
	}
}
