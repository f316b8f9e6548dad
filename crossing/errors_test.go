package crossing_test

import (
	"math"
	"testing"

	"millrind/api"
	"millrind/crossing"
)

// call reports whether the results of a function besides the error are zero values.
type call func() (zero bool, e api.Errno)

// pairCalls are all functions of a pair without a state, also with further arguments that are wrong.
func pairCalls(p api.Pair) map[string]call {
	list := func(l []int, e api.Errno) (bool, api.Errno) { return len(l) == 0, e }
	return map[string]call{
		"Check":           func() (bool, api.Errno) { return true, crossing.Check(p) },
		"States":          func() (bool, api.Errno) { n, e := crossing.States(p); return n == 0, e },
		"StateOf":         func() (bool, api.Errno) { s, e := crossing.StateOf(p, 1); return s == api.State{}, e },
		"StateOf beyond":  func() (bool, api.Errno) { s, e := crossing.StateOf(p, -1); return s == api.State{}, e },
		"Entries":         func() (bool, api.Errno) { l, e := crossing.Entries(p); return len(l) == 0, e },
		"Reach of none":   func() (bool, api.Errno) { return list(crossing.Reach(p, nil)) },
		"Free":            func() (bool, api.Errno) { is, e := crossing.Free(p); return !is, e },
		"Rank":            func() (bool, api.Errno) { return list(crossing.Rank(p)) },
		"CheckRank":       func() (bool, api.Errno) { return true, crossing.CheckRank(p, nil) },
		"CheckRank of 8":  func() (bool, api.Errno) { return true, crossing.CheckRank(p, []int{2, 2, 1, 1, 2, 2, 1, 1}) },
		"LeastCuts":       func() (bool, api.Errno) { return list(crossing.LeastCuts(p)) },
		"CheckLeast":      func() (bool, api.Errno) { return true, crossing.CheckLeast(p, 1, nil) },
		"CheckLeast of 8": func() (bool, api.Errno) { return true, crossing.CheckLeast(p, 1, []int{1, 2, 1, 1, 2, 1, 1, 1}) },
		"Counts":          func() (bool, api.Errno) { return list(crossing.Counts(p)) },
		"RunnerCounts":    func() (bool, api.Errno) { return list(crossing.RunnerCounts(p)) },
	}
}

// stateCalls are all functions of a pair and a state, also with further arguments that are wrong.
func stateCalls(p api.Pair, s api.State) map[string]call {
	span := func(x api.Span, e api.Errno) (bool, api.Errno) { return x == api.Span{}, e }
	moves := func(l []api.Move, e api.Errno) (bool, api.Errno) { return len(l) == 0, e }
	next := func(m api.Move) (bool, api.Errno) {
		to, out, e := crossing.Next(p, s, m)
		return to == api.State{} && !out, e
	}
	checkTrail := func(l []api.Move) (bool, api.Errno) { n, e := crossing.CheckTrail(p, s, l); return n == 0, e }
	long := make([]api.Move, api.MaxTrail+1)
	return map[string]call{
		"Number":              func() (bool, api.Errno) { n, e := crossing.Number(p, s); return n == 0, e },
		"Over":                func() (bool, api.Errno) { b, r, e := crossing.Over(p, s); return b == 0 && r == 0, e },
		"Moves":               func() (bool, api.Errno) { return moves(crossing.Moves(p, s)) },
		"Next":                func() (bool, api.Errno) { return next(api.Move{Out: 1}) },
		"Next badly":          func() (bool, api.Errno) { return next(api.Move{Out: 7}) },
		"Reach":               func() (bool, api.Errno) { l, e := crossing.Reach(p, []api.State{s}); return len(l) == 0, e },
		"Reach also":          func() (bool, api.Errno) { l, e := crossing.Reach(p, []api.State{{}, {}, s}); return len(l) == 0, e },
		"Reach first":         func() (bool, api.Errno) { l, e := crossing.Reach(p, []api.State{s, {}}); return len(l) == 0, e },
		"Trapped":             func() (bool, api.Errno) { is, e := crossing.Trapped(p, s); return !is, e },
		"Loop":                func() (bool, api.Errno) { return moves(crossing.Loop(p, s)) },
		"CheckLoop":           func() (bool, api.Errno) { return true, crossing.CheckLoop(p, s, []api.Move{{Side: 1}, {Side: 1}}) },
		"CheckLoop of none":   func() (bool, api.Errno) { return true, crossing.CheckLoop(p, s, nil) },
		"CheckLoop too long":  func() (bool, api.Errno) { return true, crossing.CheckLoop(p, s, long) },
		"Steps":               func() (bool, api.Errno) { return span(crossing.Steps(p, s)) },
		"Cuts":                func() (bool, api.Errno) { return span(crossing.Cuts(p, s)) },
		"Trail":               func() (bool, api.Errno) { return moves(crossing.Trail(p, s, false)) },
		"Trail with most":     func() (bool, api.Errno) { return moves(crossing.Trail(p, s, true)) },
		"CheckTrail":          func() (bool, api.Errno) { return checkTrail([]api.Move{{Out: 1, Cut: true}, {Out: 1, Cut: true}}) },
		"CheckTrail of none":  func() (bool, api.Errno) { return checkTrail(nil) },
		"CheckTrail too long": func() (bool, api.Errno) { return checkTrail(long) },
	}
}

func wantErrors(t *testing.T, what string, calls map[string]call, want api.Errno) {
	t.Helper()
	for name, do := range calls {
		if zero, e := do(); e != want || !zero {
			t.Errorf("%s of %s: error %d (want %d), zero %v", name, what, e, want, zero)
		}
	}
}

// badPairs returns pairs of which one thing each is not as it must be.
func badPairs() map[string]api.Pair {
	bad := map[string]api.Pair{"nothing": {}}
	add := func(what string, change func(p *api.Pair)) {
		p := clonePair(sampleTrap())
		change(&p)
		bad[what] = p
	}
	add("no bed", func(p *api.Pair) { p.Bed = api.Face{} })
	add("no runner", func(p *api.Pair) { p.Runner = api.Face{} })
	add("a bad kind in the bed", func(p *api.Pair) { p.Bed.Kinds[3] = 3 })
	add("a bad kind in the runner", func(p *api.Pair) { p.Runner.Kinds[0] = -1 })
	add("a cell too many in the bed", func(p *api.Pair) { p.Bed.Kinds = make([]int, 5) })
	add("a cell too few in the runner", func(p *api.Pair) { p.Runner.Kinds = make([]int, 3) })
	add("an eye of 0", func(p *api.Pair) { p.Bed.Eye, p.Runner.Eye = 0, 0 })
	add("a single sector", func(p *api.Pair) {
		p.Bed = api.Face{Eye: 1, Rings: 2, Sectors: 1, Kinds: []int{0, 0}}
		p.Runner = api.Face{Eye: 1, Rings: 2, Sectors: 1, Kinds: []int{0, 0}}
	})
	add("another eye of the bed", func(p *api.Pair) { p.Bed.Eye = 2 })
	add("another eye of the runner", func(p *api.Pair) { p.Runner.Eye = 2 })
	add("other rings", func(p *api.Pair) { p.Runner = faceOf("s.") })
	add("other sectors", func(p *api.Pair) { p.Runner = faceOf("s..", "...") })
	add("other rings and sectors", func(p *api.Pair) { p.Runner = faceOf("s...") })
	add("no drive", func(p *api.Pair) { p.Drive = nil })
	add("8 lists", func(p *api.Pair) { p.Drive = p.Drive[:8] })
	add("10 lists", func(p *api.Pair) { p.Drive = append(p.Drive, []api.Move{{Out: 1}}) })
	for _, i := range []int{0, 1, 4, 8} {
		add("an empty list", func(p *api.Pair) { p.Drive[i] = nil })
		bad["an empty list "+string(rune('0'+i))] = bad["an empty list"]
	}
	for what, list := range map[string][]api.Move{
		"4 moves":                {{Out: -1}, {}, {Side: 1}, {Out: 1}},
		"a move 2 out":           {{Out: 2}},
		"a move 2 in":            {{Out: -2}, {Out: 1}},
		"a move 2 aside":         {{Side: 2}},
		"a move 2 back":          {{Out: -1}, {Side: -2}},
		"a huge move":            {{Out: math.MaxInt}},
		"a huge move back":       {{Side: math.MinInt}, {Out: 1}},
		"equal moves":            {{Out: 1}, {Out: 1}},
		"equal last moves":       {{}, {Out: 1, Cut: true}, {Out: 1, Cut: true}},
		"wrong order by Out":     {{Out: 1}, {Out: 0, Side: 1}},
		"wrong order by Side":    {{Out: 1, Side: 1}, {Out: 1, Side: 0, Cut: true}},
		"wrong order by Cut":     {{Out: 1, Cut: true}, {Out: 1}},
		"wrong order at the end": {{Out: 0}, {Out: 1}, {Out: 0, Side: 1}},
	} {
		add(what+" first", func(p *api.Pair) { p.Drive[0] = list })
		add(what+" last", func(p *api.Pair) { p.Drive[8] = list })
	}
	return bad
}

// badStates are no states of a pair of 2 rings and 2 sectors.
func badStates() []api.State {
	var l []api.State
	for _, n := range []int{-1, 2, 3, math.MinInt, math.MaxInt} {
		l = append(l, api.State{Ring: n}, api.State{Sector: n}, api.State{Turn: n})
	}
	return append(l, api.State{Ring: 2, Sector: -4}, api.State{Ring: -1, Sector: 2}, api.State{Turn: 2, Ring: -2})
}

// P2.1: ErrPair comes ahead of all other errors.
func TestErrPair(t *testing.T) {
	for what, p := range badPairs() {
		wantErrors(t, what, pairCalls(p), api.ErrPair)
		for _, s := range []api.State{{}, {Ring: -1}, {Ring: 99, Sector: 99, Turn: 99}} {
			wantErrors(t, what, stateCalls(p, s), api.ErrPair)
		}
	}
	large := plain(api.MaxRings, api.MaxSectors)
	large.Drive = large.Drive[:8]
	wantErrors(t, "a large pair without a list", pairCalls(large), api.ErrPair)
}

// P2.1: lists with as many moves as may be, and in order, are valid.
func TestValidLists(t *testing.T) {
	for _, list := range [][]api.Move{
		{{Out: -1, Side: -1}}, {{Out: 1, Side: 1, Cut: true}},
		{{Out: -1, Side: 1, Cut: true}, {Out: 0, Side: -1}}, {{Out: 0, Side: -1, Cut: true}, {Out: 0, Side: 0}},
		{{Out: 1, Side: 0}, {Out: 1, Side: 0, Cut: true}, {Out: 1, Side: 1}},
	} {
		for _, i := range []int{0, 8} {
			p := sampleTrap()
			p.Drive[i] = list
			if e := crossing.Check(p); e != api.OK {
				t.Errorf("Check with %v: error %d", list, e)
			}
		}
	}
}

// P2.1: ErrLimit for large pairs comes ahead of the errors of states and of the rules.
func TestErrLimit(t *testing.T) {
	for _, size := range [][2]int{{8, api.MaxSectors}, {api.MaxRings, api.MaxSectors}, {17, 64}, {16, 65}, {api.MaxRings, 53}} {
		p := plain(size[0], size[1])
		wantErrors(t, "a large pair", pairCalls(p), api.ErrLimit)
		for _, s := range []api.State{{}, {Ring: -1}, {Ring: 99, Sector: 99, Turn: 99}} {
			wantErrors(t, "a large pair", stateCalls(p, s), api.ErrLimit)
		}
	}
	for _, size := range [][2]int{{16, 64}, {7, api.MaxSectors}, {api.MaxRings, 52}} {
		if e := crossing.Check(plain(size[0], size[1])); e != api.OK {
			t.Errorf("Check of %d rings and %d sectors: error %d", size[0], size[1], e)
		}
	}
	if n := must[int](t, "States")(crossing.States(plain(16, 64))); n != api.MaxStates {
		t.Errorf("States: %d", n)
	}
}

// P2.1: ErrState comes ahead of the errors of the rules.
func TestErrState(t *testing.T) {
	for _, p := range []api.Pair{sampleTrap(), sampleFree()} {
		for _, s := range badStates() {
			wantErrors(t, "no state", stateCalls(p, s), api.ErrState)
		}
	}
	// A state has a ring and a sector of its own.
	wantErrors(t, "no ring", stateCalls(plain(2, 5), api.State{Ring: 2}), api.ErrState)
	wantErrors(t, "no sector", stateCalls(plain(5, 2), api.State{Sector: 2}), api.ErrState)
	wantErrors(t, "no turn", stateCalls(plain(5, 2), api.State{Turn: 2}), api.ErrState)
}

// P2.1: moves that are none of the state.
func TestErrArg(t *testing.T) {
	for _, m := range []api.Move{{Out: 1, Cut: true}, {Side: 1, Cut: true}, {}, {Side: -1}, {Out: 2}, {Out: math.MaxInt}, {Side: math.MinInt}} {
		if to, out, e := crossing.Next(sampleTrap(), api.State{}, m); e != api.ErrArg || out || to != (api.State{}) {
			t.Errorf("Next by %v: %v, %v, error %d", m, to, out, e)
		}
	}
}

// P2.1: no call changes its arguments.
func TestArgumentsStay(t *testing.T) {
	for _, p := range samplePairs() {
		before := clonePair(p)
		for _, do := range pairCalls(p) {
			do()
		}
		for _, do := range stateCalls(p, api.State{Sector: 1}) {
			do()
		}
		if !samePair(p, before) {
			t.Fatalf("a pair was changed: %v, was %v", p, before)
		}
	}
	p, table := sampleFree(), []int{2, 2, 1, 1, 2, 2, 1, 1}
	crossing.CheckRank(p, table)
	crossing.CheckLeast(p, 1, table)
	wantInts(t, "a table", table, []int{2, 2, 1, 1, 2, 2, 1, 1})
}
