package grain_test

import (
	"math"
	"testing"

	"millrind/api"
	"millrind/grain"
)

// call reports whether the results of a function besides the error are zero values.
type call func() (zero bool, e api.Errno)

// args are what the functions of a mill are given.
type args struct {
	m          api.Mill
	grades     []int
	s          api.State
	size       api.Span // its Lo is the size for a state
	cuts, each int
	list       []api.Move
}

// gradeCalls are the functions that are given grades.
func gradeCalls(a args) map[string]call {
	return map[string]call{
		"GradeSet": func() (bool, api.Errno) { l, e := grain.GradeSet(a.m, a.grades, a.s, a.size.Lo); return len(l) == 0, e },
		"SackOf":   func() (bool, api.Errno) { x, e := grain.SackOf(a.m, a.grades, a.size, a.each); return noSack(x), e },
	}
}

func noSack(x api.Sack) bool { return len(x.Least) == 0 && len(x.Most) == 0 }

// stateCalls are the functions that are given a state, or a grain.
func stateCalls(a args) map[string]call {
	g := api.Grain{At: a.s, Size: a.size.Lo, Cuts: a.cuts}
	after := func(x api.Move) (bool, api.Errno) {
		to, out, e := grain.After(a.m, g, x)
		return to == api.Grain{} && !out, e
	}
	return map[string]call{
		"Bites":        func() (bool, api.Errno) { is, e := grain.Bites(a.m, g); return !is, e },
		"After":        func() (bool, api.Errno) { return after(api.Move{Out: 1}) },
		"After badly":  func() (bool, api.Errno) { return after(api.Move{Out: 7}) },
		"CutSet":       func() (bool, api.Errno) { l, e := grain.CutSet(a.m, a.s, a.size.Lo); return len(l) == 0, e },
		"CutSpan":      func() (bool, api.Errno) { x, e := grain.CutSpan(a.m, a.s, a.size.Lo); return x == api.Span{}, e },
		"Witness":      func() (bool, api.Errno) { l, e := grain.Witness(a.m, a.s, a.size.Lo, a.cuts); return len(l) == 0, e },
		"CheckWitness": func() (bool, api.Errno) { n, e := grain.CheckWitness(a.m, a.s, a.size.Lo, a.list); return n == 0, e },
		"GradeSet":     gradeCalls(a)["GradeSet"],
	}
}

// spanCalls are the functions that are given a span of sizes.
func spanCalls(a args) map[string]call {
	return map[string]call{
		"Entering": func() (bool, api.Errno) { l, e := grain.Entering(a.m, a.size); return len(l) == 0, e },
		"Ground":   func() (bool, api.Errno) { is, e := grain.Ground(a.m, a.size); return !is, e },
		"Whole":    func() (bool, api.Errno) { g, e := grain.Whole(a.m, a.size); return g == api.Grain{}, e },
		"SackOf":   gradeCalls(a)["SackOf"],
	}
}

func wantErrors(t *testing.T, what string, calls map[string]call, want api.Errno) {
	t.Helper()
	for name, do := range calls {
		if zero, e := do(); e != want || !zero {
			t.Errorf("%s of %s: error %d (want %d), zero %v", name, what, e, want, zero)
		}
	}
}

// badArgs are arguments of which each one is wrong: a bad span, and so on.
func badArgs(m api.Mill) args {
	return args{
		m: m, grades: []int{1}, s: api.State{Ring: -1}, size: api.Span{Lo: 0, Hi: -1}, cuts: -1, each: -1,
		list: make([]api.Move, api.MaxTrail+1),
	}
}

// P3.1: what is wrong with the mill comes ahead of all else.
func TestMillErrors(t *testing.T) {
	large := plain(api.MaxRings, api.MaxSectors, 1, api.Move{Out: 1})
	pair, gaps := sampleTrap(), sampleTrap()
	pair.Pair.Drive[3] = nil
	gaps.Gap[1] = -1
	large.Gap[0], pair.Gap[0] = -1, -1
	for what, x := range map[string]struct {
		m    api.Mill
		want api.Errno
	}{"a bad pair": {pair, api.ErrPair}, "a large pair": {large, api.ErrLimit}, "bad gaps": {gaps, api.ErrMill}} {
		bad := badArgs(x.m)
		good := args{m: x.m, grades: []int{0}, size: api.Span{Lo: 1, Hi: 1}, each: 1, list: []api.Move{{Out: 1}}}
		for _, a := range []args{bad, good} {
			wantErrors(t, what, stateCalls(a), x.want)
			wantErrors(t, what, spanCalls(a), x.want)
		}
	}
}

// P3.1: bad grades come behind a bad mill alone.
func TestGradesErrors(t *testing.T) {
	for _, grades := range [][]int{nil, {}, {1}, {0, 0}, {0, 65}, {0, 1, 2, 3, 4, 5, 6, 7, 8}} {
		a := badArgs(sampleTrap())
		a.grades = grades
		wantErrors(t, "no grades", gradeCalls(a), api.ErrGrades)
		a = args{m: sampleFree(), grades: grades, size: api.Span{Lo: 2, Hi: 2}, each: 1}
		wantErrors(t, "no grades", gradeCalls(a), api.ErrGrades)
	}
}

// P3.1: ErrState comes ahead of ErrArg, of traps and of trails.
func TestStateErrors(t *testing.T) {
	for _, n := range []int{-1, 2, math.MinInt, math.MaxInt} {
		for _, s := range []api.State{{Ring: n}, {Sector: n}, {Turn: n}, {Ring: 1}} {
			for _, m := range []api.Mill{sampleTrap(), sampleFree()} {
				a := badArgs(m)
				a.grades, a.s = []int{0}, s
				wantErrors(t, "no state", stateCalls(a), api.ErrState)
				a = args{m: m, grades: []int{0}, s: s, size: api.Span{Lo: 1, Hi: 1}, list: []api.Move{{Out: 1}}}
				wantErrors(t, "no state", stateCalls(a), api.ErrState)
			}
		}
	}
}

// P3.1: ErrArg for sizes, cuts and spans comes ahead of the errors of the rules.
func TestArgErrors(t *testing.T) {
	for _, m := range []api.Mill{sampleTrap(), sampleFree()} {
		for _, size := range []int{0, -1, math.MinInt, api.MaxSize + 1, math.MaxInt} {
			a := badArgs(m)
			a.grades, a.s, a.size.Lo = []int{0}, api.State{}, size
			wantErrors(t, "no size", stateCalls(a), api.ErrArg)
		}
		for _, size := range []api.Span{{}, {Lo: 0, Hi: 3}, {Lo: 3, Hi: 2}, {Lo: -2, Hi: -1}, {Lo: 1, Hi: api.MaxSize + 1}, {Lo: api.MaxSize + 1, Hi: api.MaxSize + 1}, {Lo: 1, Hi: math.MaxInt}, {Lo: math.MinInt, Hi: math.MaxInt}} {
			for _, each := range []int{0, 1, -1, math.MaxInt} {
				wantErrors(t, "no span", spanCalls(args{m: m, grades: []int{0}, size: size, each: each}), api.ErrArg)
			}
		}
		for _, cuts := range []int{-1, math.MinInt, api.MaxTrail + 1, math.MaxInt} {
			calls := stateCalls(args{m: m, size: api.Span{Lo: 4, Hi: 4}, cuts: cuts})
			for _, name := range []string{"Bites", "After", "After badly"} {
				wantErrors(t, "cuts of a grain", map[string]call{name: calls[name]}, api.ErrArg)
			}
		}
	}
	if is := must[bool](t, "Bites")(grain.Bites(sampleFree(), api.Grain{Size: 4, Cuts: api.MaxTrail})); !is {
		t.Error("a grain that was cut as often as may be is bitten too")
	}
	// A trap comes behind too many grains, and ahead of cuts that no trail has.
	many := args{m: sampleTrap(), grades: []int{0}, size: api.Span{Lo: 1, Hi: 1}, each: api.MaxGrains, cuts: -1}
	wantErrors(t, "too many grains", map[string]call{"SackOf": spanCalls(many)["SackOf"]}, api.ErrLimit)
	wantErrors(t, "a trap", map[string]call{"Witness": stateCalls(many)["Witness"]}, api.ErrTrap)
}

// P3.1: no call changes its arguments.
func TestArgumentsStay(t *testing.T) {
	for _, m := range sampleMills() {
		before, grades := cloneMill(m), []int{0, 1, 4}
		a := args{m: m, grades: grades, size: api.Span{Lo: 3, Hi: 9}, each: 2, list: []api.Move{{Out: 1}}}
		for _, do := range stateCalls(a) {
			do()
		}
		for _, do := range spanCalls(a) {
			do()
		}
		wantInts(t, "grades", grades, []int{0, 1, 4})
		if !sameMill(m, before) {
			t.Fatalf("a mill was changed: %v, was %v", m, before)
		}
	}
}
