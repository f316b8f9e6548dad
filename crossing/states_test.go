package crossing_test

import (
	"math"
	"math/rand/v2"
	"slices"
	"testing"

	"millrind/api"
	"millrind/crossing"
)

// P2.1: the chapter's examples of states and moves.
func TestStateExamples(t *testing.T) {
	p := sampleTrap()
	if e := crossing.Check(p); e != api.OK {
		t.Errorf("Check: error %d", e)
	}
	if n := must[int](t, "States")(crossing.States(p)); n != 8 {
		t.Errorf("States: %d", n)
	}
	if n := must[int](t, "Number")(crossing.Number(p, api.State{Ring: 1, Sector: 0, Turn: 1})); n != 6 {
		t.Errorf("Number: %d", n)
	}
	if s := must[api.State](t, "StateOf")(crossing.StateOf(p, 5)); s != (api.State{Ring: 0, Sector: 1, Turn: 1}) {
		t.Errorf("StateOf: %v", s)
	}
	if bed, runner, e := crossing.Over(p, api.State{Ring: 0, Sector: 1, Turn: 1}); e != api.OK || bed != 0 || runner != 1 {
		t.Errorf("Over: %d, %d, error %d", bed, runner, e)
	}
	wantMoves(t, "Moves", must[[]api.Move](t, "Moves")(crossing.Moves(p, api.State{})), []api.Move{{Side: 1}, {Out: 1}})
	if to, out, e := crossing.Next(p, api.State{}, api.Move{Side: 1}); e != api.OK || out || to != (api.State{Ring: 0, Sector: 1, Turn: 1}) {
		t.Errorf("Next: %v, %v, error %d", to, out, e)
	}
}

// P2.2: Number and StateOf undo each other, by the formula of the chapter.
func TestNumbers(t *testing.T) {
	pairs := append(samplePairs(), plain(api.MaxRings, 10), plain(7, api.MaxSectors))
	for _, p := range pairs {
		n := must[int](t, "States")(crossing.States(p))
		if n != p.Bed.Rings*p.Bed.Sectors*p.Bed.Sectors {
			t.Fatalf("States of %v: %d", p, n)
		}
		for i := 0; i < n; i += 1 + n/500 {
			s := must[api.State](t, "StateOf")(crossing.StateOf(p, i))
			if (s.Turn*p.Bed.Rings+s.Ring)*p.Bed.Sectors+s.Sector != i || s.Ring >= p.Bed.Rings || s.Sector >= p.Bed.Sectors {
				t.Fatalf("StateOf(%d) of a pair of %d rings and %d sectors: %v", i, p.Bed.Rings, p.Bed.Sectors, s)
			}
			if got := must[int](t, "Number")(crossing.Number(p, s)); got != i {
				t.Fatalf("Number of %v: got %d, want %d", s, got, i)
			}
		}
		for _, i := range []int{-1, n, n + 1, math.MinInt, math.MaxInt} {
			if s, e := crossing.StateOf(p, i); e != api.ErrArg || s != (api.State{}) {
				t.Errorf("StateOf(%d): %v, error %d", i, s, e)
			}
		}
	}
}

// P2.1: kinds, moves and what they come to, at each state.
func TestMovesOfStates(t *testing.T) {
	for _, p := range samplePairs() {
		m := modelOf(p)
		for _, s := range m.states {
			bed, runner, e := crossing.Over(p, s)
			if b, r := m.over(s); e != api.OK || bed != b || runner != r {
				t.Fatalf("Over(%v) of %v: got %d, %d, error %d", s, p, bed, runner, e)
			}
			list := must[[]api.Move](t, "Moves")(crossing.Moves(p, s))
			wantMoves(t, "Moves", list, m.moves(s))
			for _, move := range allMoves() {
				to, out, e := crossing.Next(p, s, move)
				if !slices.Contains(list, move) {
					if e != api.ErrArg || out || to != (api.State{}) {
						t.Fatalf("Next(%v, %v) of %v: %v, %v, error %d", s, move, p, to, out, e)
					}
					continue
				}
				if wantTo, wantOut := m.next(s, move); e != api.OK || out != wantOut || to != wantTo {
					t.Fatalf("Next(%v, %v) of %v: got %v, %v, error %d; want %v, %v", s, move, p, to, out, e, wantTo, wantOut)
				}
			}
		}
	}
}

// P2.1: moves at the eye, at the skirt, and from the last sector and turn to the first ones.
func TestMovesAtTheEnds(t *testing.T) {
	p := plain(2, 3)
	p.Drive[0] = []api.Move{{Out: -1, Side: -1}, {Out: 0, Side: 1, Cut: true}, {Out: 1}}
	for _, x := range []struct {
		s    api.State
		m    api.Move
		to   api.State
		left bool
	}{
		{api.State{}, p.Drive[0][0], api.State{Sector: 2, Turn: 1}, false},
		{api.State{Ring: 1, Sector: 1}, p.Drive[0][0], api.State{Turn: 1}, false},
		{api.State{Sector: 2, Turn: 2}, p.Drive[0][1], api.State{}, false},
		{api.State{Ring: 1, Sector: 2, Turn: 2}, p.Drive[0][1], api.State{Ring: 1}, false},
		{api.State{Sector: 1, Turn: 2}, p.Drive[0][2], api.State{Ring: 1, Sector: 1}, false},
		{api.State{Ring: 1, Sector: 1, Turn: 2}, p.Drive[0][2], api.State{}, true},
	} {
		if to, out, e := crossing.Next(p, x.s, x.m); e != api.OK || to != x.to || out != x.left {
			t.Errorf("Next(%v, %v): %v, %v, error %d", x.s, x.m, to, out, e)
		}
	}
}

// P2.1, C8.
func TestEntries(t *testing.T) {
	for _, p := range samplePairs() {
		got := must[[]api.State](t, "Entries")(crossing.Entries(p))
		if want := modelOf(p).entries(); !slices.Equal(got, want) {
			t.Errorf("Entries of %v: got %v, want %v", p, got, want)
		}
	}
}

// P2.1, C9, and P2.2: Reach has the states from which it begins and all to which their courses come.
func TestReach(t *testing.T) {
	r := rand.New(rand.NewPCG(5, 6))
	for _, p := range samplePairs() {
		m := modelOf(p)
		wantInts(t, "Reach of none", must[[]int](t, "Reach")(crossing.Reach(p, nil)), nil)
		for _, s := range m.states {
			got := must[[]int](t, "Reach")(crossing.Reach(p, []api.State{s}))
			wantInts(t, "Reach", got, m.reach([]api.State{s}))
			other := m.states[r.IntN(len(m.states))]
			from := []api.State{other, s, s, other, s}
			got = must[[]int](t, "Reach")(crossing.Reach(p, from))
			wantInts(t, "Reach of several", got, m.reach(from))
			if !slices.Equal(from, []api.State{other, s, s, other, s}) {
				t.Fatal("Reach changes its argument")
			}
		}
		checkReached(t, m, must[[]int](t, "Reach")(crossing.Reach(p, m.entries())))
	}
	p := sampleFree()
	many := slices.Repeat([]api.State{{Ring: 1}, {Sector: 1}}, api.MaxStates)
	wantInts(t, "Reach of many", must[[]int](t, "Reach")(crossing.Reach(p, many)), []int{1, 2, 7})
}

// checkReached checks that each reached state is an entry, or that a move of another reached one comes to it.
func checkReached(t *testing.T, m model, reached []int) {
	t.Helper()
	for _, i := range reached {
		from := m.states[i].Ring == 0
		for _, k := range reached {
			for _, move := range m.moves(m.states[k]) {
				to, out := m.next(m.states[k], move)
				from = from || k != i && !out && m.number(to) == i
			}
		}
		if !from {
			t.Errorf("nothing comes to the reached state %v of %v", m.states[i], m.p)
		}
	}
}

// P2.1: results are new memory.
func TestResultsAreNew(t *testing.T) {
	p := sampleTrap()
	before := clonePair(p)
	l := must[[]api.Move](t, "Moves")(crossing.Moves(p, api.State{}))
	l[0] = api.Move{Out: -1, Cut: true}
	_ = append(l[:1], api.Move{Out: -1, Cut: true})
	loop := must[[]api.Move](t, "Loop")(crossing.Loop(p, api.State{}))
	loop[0] = api.Move{Out: -1}
	if !samePair(p, before) {
		t.Error("a result shares memory with the pair")
	}
	wantMoves(t, "Moves again", must[[]api.Move](t, "Moves")(crossing.Moves(p, api.State{})), []api.Move{{Side: 1}, {Out: 1}})
	q := sampleFree()
	first := must[[]int](t, "LeastCuts")(crossing.LeastCuts(q))
	clear(first)
	wantInts(t, "LeastCuts again", must[[]int](t, "LeastCuts")(crossing.LeastCuts(q)), []int{1, 2, 1, 1, 2, 1, 1, 1})
}
