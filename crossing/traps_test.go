package crossing_test

import (
	"math/rand/v2"
	"slices"
	"testing"

	"millrind/api"
	"millrind/crossing"
)

// P2.1: the chapter's examples of traps.
func TestTrapExamples(t *testing.T) {
	p := sampleTrap()
	if !must[bool](t, "Trapped")(crossing.Trapped(p, api.State{})) || must[bool](t, "Free")(crossing.Free(p)) {
		t.Error("the state 0, 0, 0 is trapped, and the pair not free")
	}
	if e := crossing.CheckLoop(p, api.State{}, []api.Move{{Side: 1}, {Side: 1}}); e != api.OK {
		t.Errorf("CheckLoop: error %d", e)
	}
	if must[bool](t, "Trapped")(crossing.Trapped(p, api.State{Sector: 1})) {
		t.Error("the state 0, 1, 0 is not trapped")
	}
	if !must[bool](t, "Free")(crossing.Free(sampleFree())) {
		t.Error("without the move aside the pair is free")
	}
	if !must[bool](t, "Free")(crossing.Free(island())) || !must[bool](t, "Trapped")(crossing.Trapped(island(), api.State{Ring: 1, Sector: 1})) {
		t.Error("a pair is free if only states that are not reached are trapped")
	}
}

// P2.3: a state is trapped if and only if Loop returns a loop, which CheckLoop accepts; and if and only if one to which its moves come is.
func TestTrapped(t *testing.T) {
	for _, p := range samplePairs() {
		m := modelOf(p)
		for _, s := range m.states {
			trapped := must[bool](t, "Trapped")(crossing.Trapped(p, s))
			if trapped == m.safe[s] {
				t.Fatalf("Trapped(%v) of %v: %v", s, p, trapped)
			}
			loop, e := crossing.Loop(p, s)
			if !trapped {
				if e != api.ErrNone || len(loop) != 0 {
					t.Fatalf("Loop from %v of %v: %v, error %d", s, p, loop, e)
				}
				continue
			}
			if e != api.OK || len(loop) > len(m.states) || !m.isLoop(s, loop) || crossing.CheckLoop(p, s, loop) != api.OK {
				t.Fatalf("Loop from %v of %v: %v, error %d", s, p, loop, e)
			}
		}
		if free := must[bool](t, "Free")(crossing.Free(p)); free != m.free() {
			t.Errorf("Free of %v: %v", p, free)
		}
	}
}

// randomCourse follows moves of a state, now and then one that is none, or one behind the last one.
func randomCourse(r *rand.Rand, m model, s api.State) []api.Move {
	var l []api.Move
	for range r.IntN(12) {
		list := m.moves(s)
		if r.IntN(40) == 0 {
			list = allMoves()
		}
		move := list[r.IntN(len(list))]
		l = append(l, move)
		to, out := m.next(s, move)
		if out && r.IntN(8) > 0 {
			break
		}
		s = to
	}
	return l
}

// P2.3: CheckLoop accepts loops and nothing else, none from a state that is not trapped.
func TestCheckLoop(t *testing.T) {
	r := rand.New(rand.NewPCG(7, 8))
	accepted := 0
	for _, p := range samplePairs() {
		m := modelOf(p)
		for range 300 {
			s := m.states[r.IntN(len(m.states))]
			course := randomCourse(r, m, s)
			before := slices.Clone(course)
			want := api.ErrTrail
			if m.isLoop(s, course) {
				want = api.OK
				accepted++
			}
			if e := crossing.CheckLoop(p, s, course); e != want {
				t.Fatalf("CheckLoop(%v, %v) of %v: error %d, want %d", s, course, p, e, want)
			}
			if want == api.OK && m.safe[s] {
				t.Fatalf("a loop from %v of %v, which is not trapped: %v", s, p, course)
			}
			wantMoves(t, "the argument of CheckLoop", course, before)
		}
	}
	if accepted < 100 {
		t.Errorf("%d loops only", accepted)
	}
}

// P2.1, C13: what is no loop, and loops that go round several times or do not come back to their first state.
func TestLoopsAndOthers(t *testing.T) {
	p := sampleTrap()
	for what, l := range map[string][]api.Move{
		"no moves":             nil,
		"a course that ends":   {{Out: 1}},
		"one step only":        {{Side: 1}},
		"a trail":              {{Side: 1}, {Side: 1}, {Out: 1}, {Out: 1, Cut: true}},
		"moves behind a trail": {{Out: 1}, {Out: 1, Cut: true}, {Side: 1}, {Side: 1}},
		"no course":            {{Side: 1}, {Side: -1}},
		"a loop and no move":   {{Side: 1}, {Side: 1}, {Side: 1, Cut: true}},
		"no course at first":   {{Out: 1, Cut: true}, {Side: 1}, {Side: 1}},
		"a new state last":     {{Side: 1}, {Side: 1}, {Out: 1}},
	} {
		if e := crossing.CheckLoop(p, api.State{}, l); e != api.ErrTrail {
			t.Errorf("CheckLoop of %s: error %d", what, e)
		}
	}
	aside := slices.Repeat([]api.Move{{Side: 1}}, api.MaxTrail+1)
	for _, n := range []int{2, 3, 4, 7, api.MaxStates + 1, api.MaxTrail} {
		if e := crossing.CheckLoop(p, api.State{}, aside[:n]); e != api.OK {
			t.Errorf("CheckLoop of %d moves: error %d", n, e)
		}
	}
	if e := crossing.CheckLoop(p, api.State{}, aside); e != api.ErrLimit {
		t.Errorf("CheckLoop of too many moves: error %d", e)
	}
	if e := crossing.CheckLoop(p, api.State{}, make([]api.Move, api.MaxTrail)); e != api.ErrTrail {
		t.Errorf("CheckLoop of moves that are none: error %d", e)
	}
	// The grain goes inward first, and then stays at the eye.
	q := plain(2, 2)
	q.Drive[0] = []api.Move{{Out: -1}}
	inward := slices.Repeat([]api.Move{{Out: -1}}, 3)
	for n, want := range []api.Errno{api.ErrTrail, api.ErrTrail, api.ErrTrail, api.OK} {
		if e := crossing.CheckLoop(q, api.State{Ring: 1}, inward[:n]); e != want {
			t.Errorf("CheckLoop of %d moves inward: error %d, want %d", n, e, want)
		}
	}
}

// P2.3 for pairs with as many states as may be: loops have at most MaxStates moves.
func TestLongLoops(t *testing.T) {
	for _, p := range []api.Pair{winding(16, 64, false), winding(1, 96, false), winding(api.MaxRings, 52, false)} {
		longest := 0
		for _, s := range []api.State{{}, {Sector: 1}, {Sector: 2, Turn: 1}, {Ring: p.Bed.Rings - 1, Turn: 1}} {
			if !must[bool](t, "Trapped")(crossing.Trapped(p, s)) {
				t.Errorf("%v is trapped", s)
			}
			loop := must[[]api.Move](t, "Loop")(crossing.Loop(p, s))
			longest = max(longest, len(loop))
			if e := crossing.CheckLoop(p, s, loop); e != api.OK || len(loop) > api.MaxStates {
				t.Errorf("Loop from %v: %d moves, CheckLoop's error %d", s, len(loop), e)
			}
		}
		if longest < 5000 {
			t.Errorf("the longest loop has %d moves only", longest)
		}
		if must[bool](t, "Free")(crossing.Free(p)) {
			t.Error("a pair without a way out is not free")
		}
	}
}
