package wear_test

import (
	"reflect"
	"testing"

	"millrind/api"
	"millrind/wear"
)

// call reports whether the results of a function besides the error are zero values.
type call func() (zero bool, e api.Errno)

// args are what the functions of a story are given.
type args struct {
	s                        api.Story
	world                    []int
	slice, cell, other, heap int
	high                     bool
	bounds                   []api.Bound
	cases                    []api.Case
	h                        [][]int
	set                      []int
}

func of[T any](l []T, e api.Errno) (bool, api.Errno) { return len(l) == 0, e }

func one[T comparable](x T, e api.Errno) (bool, api.Errno) {
	var zero T
	return x == zero, e
}

// storyCalls are the functions of all worlds of a story.
func storyCalls(a args) map[string]call {
	return map[string]call{
		"Worlds":     func() (bool, api.Errno) { return of(wear.Worlds(a.s)) },
		"Living":     func() (bool, api.Errno) { return of(wear.Living(a.s)) },
		"Hardness":   func() (bool, api.Errno) { return of(wear.Hardness(a.s, a.heap)) },
		"Heights":    func() (bool, api.Errno) { return of(wear.Heights(a.s, a.slice)) },
		"Height":     func() (bool, api.Errno) { return one(wear.Height(a.s, a.slice, a.cell)) },
		"Relation":   func() (bool, api.Errno) { return one(wear.Relation(a.s, a.slice, a.cell, a.other)) },
		"Prove":      func() (bool, api.Errno) { return of(wear.Prove(a.s, a.slice, a.cell, a.high)) },
		"CheckCases": func() (bool, api.Errno) { return one(wear.CheckCases(a.s, a.slice, a.cell, a.high, a.cases)) },
	}
}

// worldCalls are the functions of one world of a story.
func worldCalls(a args) map[string]call {
	return map[string]call{
		"Bounds":    func() (bool, api.Errno) { return of(wear.Bounds(a.s, a.world)) },
		"Closes":    func() (bool, api.Errno) { return one(wear.Closes(a.s, a.world)) },
		"Within":    func() (bool, api.Errno) { return of(wear.Within(a.s, a.world, a.slice)) },
		"Lowest":    func() (bool, api.Errno) { return of(wear.Lowest(a.s, a.world)) },
		"Highest":   func() (bool, api.Errno) { return of(wear.Highest(a.s, a.world)) },
		"Keeps":     func() (bool, api.Errno) { return one(wear.Keeps(a.s, a.world, a.h)) },
		"Loop":      func() (bool, api.Errno) { return of(wear.Loop(a.s, a.world)) },
		"CheckLoop": func() (bool, api.Errno) { return one(wear.CheckLoop(a.s, a.world, a.bounds)) },
		"Path":      func() (bool, api.Errno) { return of(wear.Path(a.s, a.world, a.slice, a.cell, a.high)) },
		"CheckPath": func() (bool, api.Errno) { return one(wear.CheckPath(a.s, a.world, a.slice, a.cell, a.high, a.bounds)) },
	}
}

// setCalls are the functions of a story with some of its readings.
func setCalls(a args) map[string]call {
	return map[string]call{
		"Only": func() (bool, api.Errno) {
			o, e := wear.Only(a.s, a.set)
			return reflect.DeepEqual(o, api.Story{}), e
		},
		"Clash": func() (bool, api.Errno) { return of(wear.Clash(a.s)) },
	}
}

func wantErrors(t *testing.T, what string, calls map[string]call, want api.Errno, others map[string]api.Errno) {
	t.Helper()
	for name, f := range calls {
		expected := want
		if e, is := others[name]; is {
			expected = e
		}
		if zero, e := f(); e != expected || e != api.OK && !zero {
			t.Errorf("%s: %s has error %d, want %d; zero values: %v", what, name, e, expected, zero)
		}
	}
}

// bad are arguments of which nothing is right but the story.
func bad(s api.Story) args {
	return args{s: s, world: []int{9}, slice: -1, cell: -1, other: -1, heap: -1, set: []int{-1}}
}

// P4.1, Errors: an error of Check comes first, with everything else wrong as well.
func TestStoryErrors(t *testing.T) {
	for _, x := range []struct {
		what   string
		change func(s *api.Story)
		want   api.Errno
	}{
		{"a wrong reading", func(s *api.Story) { s.Readings[0].A = 2 }, api.ErrStory},
		{"no cells", func(s *api.Story) { s.Start = nil }, api.ErrStory},
		{"too many heaps", func(s *api.Story) { s.Heaps = make([]api.Span, 9) }, api.ErrLimit},
	} {
		a := bad(wideStory(true))
		x.change(&a.s)
		wantErrors(t, x.what, storyCalls(a), x.want, nil)
		wantErrors(t, x.what, worldCalls(a), x.want, nil)
		wantErrors(t, x.what, setCalls(a), x.want, nil)
	}
}

// P4.1, Errors: ErrLimit of a wide story comes ahead of ErrArg and ErrClash, for all functions without a world but Check and Only; those with a world answer.
func TestWideStories(t *testing.T) {
	for _, all := range []bool{false, true} {
		s := wideStory(all)
		wantErrors(t, "wide", storyCalls(bad(s)), api.ErrLimit, nil)
		wantErrors(t, "wide", setCalls(bad(s)), api.ErrLimit, map[string]api.Errno{"Only": api.ErrArg})
		if e, n := wear.Check(s); e != api.OK || n != 0 {
			t.Errorf("Check of a wide story: %d, %d", e, n)
		}
		o := must[api.Story](t, "Only")(wear.Only(s, []int{0}))
		if !reflect.DeepEqual(o, s) {
			t.Errorf("Only of a wide story: %+v", o)
		}
		world := []int{2, 1, 1, 1, 1, 1, 1, 1}[:len(s.Heaps)]
		a := args{s: s, world: world, slice: 1, high: true}
		wantErrors(t, "a world of a wide story", worldCalls(a), api.OK, map[string]api.Errno{"Loop": api.ErrNone, "CheckPath": api.ErrProof})
		if x := must[[]api.Span](t, "Within")(wear.Within(s, world, 0)); x[1] != (api.Span{Lo: 107, Hi: 110}) {
			t.Errorf("Within a world of a wide story: %v", x)
		}
	}
}

// P4.1, Errors: ErrWorld for numbers that are no world comes ahead of ErrArg and ErrClash.
func TestWorldErrors(t *testing.T) {
	for _, world := range [][]int{nil, {1}, {5}, {2, 2}, {-1 << 63}} {
		a := bad(contradictory())
		a.world = world
		wantErrors(t, "no world", worldCalls(a), api.ErrWorld, nil)
	}
	a := bad(example())
	a.s.Heaps = append(a.s.Heaps, api.Span{Lo: 1, Hi: 1})
	a.world = []int{1, 2}
	wantErrors(t, "hardnesses in another order", worldCalls(a), api.ErrWorld, nil)
}

// P4.1, Errors: ErrArg for a slice, a cell or a heap that is none comes ahead of ErrClash and of the errors of the rule.
func TestArgErrors(t *testing.T) {
	usesSlice := map[string]bool{"Heights": true, "Height": true, "Relation": true, "Prove": true, "CheckCases": true, "Within": true, "Path": true, "CheckPath": true}
	usesCell := map[string]bool{"Height": true, "Relation": true, "Prove": true, "CheckCases": true, "Path": true, "CheckPath": true}
	for _, x := range []struct {
		what   string
		change func(a *args)
		uses   map[string]bool
	}{
		{"a slice ahead of the first one", func(a *args) { a.slice = -1 }, usesSlice},
		{"a slice behind the last one", func(a *args) { a.slice = 2 }, usesSlice},
		{"the ground as a cell", func(a *args) { a.cell = -1 }, usesCell},
		{"a cell behind the last one", func(a *args) { a.cell = 2 }, usesCell},
		{"the ground as the other cell", func(a *args) { a.other = -1 }, map[string]bool{"Relation": true}},
		{"another cell behind the last one", func(a *args) { a.other = 2 }, map[string]bool{"Relation": true}},
		{"a heap ahead of the first one", func(a *args) { a.heap = -1 }, map[string]bool{"Hardness": true}},
		{"a heap behind the last one", func(a *args) { a.heap = 1 }, map[string]bool{"Hardness": true}},
	} {
		a := args{s: contradictory(), world: []int{3}}
		x.change(&a)
		for _, calls := range []map[string]call{storyCalls(a), worldCalls(a)} {
			for name, f := range calls {
				if zero, e := f(); x.uses[name] && (e != api.ErrArg || !zero) {
					t.Errorf("%s: %s has error %d, zero values: %v", x.what, name, e, zero)
				} else if !x.uses[name] && e == api.ErrArg {
					t.Errorf("%s: %s has ErrArg", x.what, name)
				}
			}
		}
	}
}

// P4.1, Errors: ErrClash where no world lives, or not the one that is told; not for the functions that the chapter names.
func TestClashErrors(t *testing.T) {
	a := args{s: contradictory(), world: []int{3}}
	wantErrors(t, "a dead story", storyCalls(a), api.ErrClash, map[string]api.Errno{"Worlds": api.OK, "CheckCases": api.ErrProof})
	wantErrors(t, "a dead story", setCalls(a), api.OK, nil)
	others := map[string]api.Errno{"Bounds": api.OK, "Closes": api.OK, "Keeps": api.OK, "Loop": api.OK, "CheckLoop": api.OK, "CheckPath": api.ErrProof}
	wantErrors(t, "a dead world", worldCalls(a), api.ErrClash, others)
	a.s = example()
	wantErrors(t, "a dead world of a story that lives", worldCalls(a), api.ErrClash, others)
	wantErrors(t, "a story that lives", storyCalls(a), api.OK, map[string]api.Errno{"CheckCases": api.ErrProof})
}

// R4, R7: nil and empty lists are the same; arguments are not changed; a result that is changed changes no later one.
func TestArgumentsAreKept(t *testing.T) {
	s := contradictory()
	s.Readings = s.Readings[:1]
	a := args{
		s: s, world: []int{2}, slice: 1, cell: 1, high: true, set: []int{0}, h: [][]int{{100, 108}, {90, 88}},
		bounds: must[[]api.Bound](t, "Path")(wear.Path(s, []int{2}, 1, 1, true)),
		cases:  must[[]api.Case](t, "Prove")(wear.Prove(s, 1, 1, true)),
	}
	before := args{
		s: example(), world: []int{2}, slice: 1, cell: 1, high: true, set: []int{0}, h: [][]int{{100, 108}, {90, 88}},
		bounds: must[[]api.Bound](t, "Path")(wear.Path(s, []int{2}, 1, 1, true)),
		cases:  must[[]api.Case](t, "Prove")(wear.Prove(s, 1, 1, true)),
	}
	for _, calls := range []map[string]call{storyCalls(a), worldCalls(a), setCalls(a)} {
		for name, f := range calls {
			if f(); !reflect.DeepEqual(a, before) {
				t.Fatalf("%s changes its arguments", name)
			}
		}
	}
	for _, l := range [][][]int{must[[][]int](t, "Worlds")(wear.Worlds(s)), must[[][]int](t, "Living")(wear.Living(s)), must[[][]int](t, "Lowest")(wear.Lowest(s, a.world))} {
		l[0][0] = 77
	}
	l := must[[]api.Case](t, "Prove")(wear.Prove(s, 1, 1, true))
	l[0].World[0] = 77
	l[0].Path[0].Most = 77
	if !reflect.DeepEqual(a, before) || !reflect.DeepEqual(must[[]api.Case](t, "Prove")(wear.Prove(s, 1, 1, true)), a.cases) {
		t.Error("results share memory")
	}
	empty := clone(s)
	empty.Heaps, empty.Steps, empty.Readings = []api.Span{}, []api.Step{}, []api.Reading{}
	if is := must[bool](t, "Closes")(wear.Closes(empty, nil)); !is {
		t.Error("a story of starts alone does not live")
	}
}
