package crossing_test

import (
	"math/rand/v2"
	"slices"
	"testing"

	"millrind/api"
	"millrind/crossing"
)

// P2.1: the chapter's examples of trails.
func TestTrailExamples(t *testing.T) {
	p, s := sampleTrap(), api.State{Sector: 1}
	if x := must[api.Span](t, "Steps")(crossing.Steps(p, s)); x != (api.Span{Lo: 2, Hi: 2}) {
		t.Errorf("Steps: %v", x)
	}
	if x := must[api.Span](t, "Cuts")(crossing.Cuts(p, s)); x != (api.Span{Lo: 2, Hi: 2}) {
		t.Errorf("Cuts: %v", x)
	}
	wantMoves(t, "Trail", must[[]api.Move](t, "Trail")(crossing.Trail(p, s, false)), []api.Move{{Out: 1, Cut: true}, {Out: 1, Cut: true}})
	for what, do := range stateCalls(p, api.State{}) {
		if what != "Steps" && what != "Cuts" && what != "Trail" && what != "Trail with most" {
			continue
		}
		if zero, e := do(); e != api.ErrTrap || !zero {
			t.Errorf("%s of a trapped state: error %d", what, e)
		}
	}
}

// P2.5: Steps and Cuts are the ends of the numbers of all trails; Trail returns the first one with the least, or the greatest, number of cuts.
func TestTrails(t *testing.T) {
	wide, many := 0, 0
	for _, p := range samplePairs() {
		m := modelOf(p)
		for _, s := range m.states {
			if !m.safe[s] {
				checkTrapErrors(t, p, s)
				continue
			}
			trails := m.trails(s, 2000)
			if trails == nil {
				continue
			}
			checkTrails(t, p, s, trails)
			if x := must[api.Span](t, "Cuts")(crossing.Cuts(p, s)); x.Lo < x.Hi {
				wide++
			}
			if len(trails) > 10 {
				many++
			}
		}
	}
	if wide < 50 || many < 20 {
		t.Errorf("%d states with several numbers of cuts, %d with many trails", wide, many)
	}
}

func checkTrapErrors(t *testing.T, p api.Pair, s api.State) {
	t.Helper()
	if x, e := crossing.Steps(p, s); e != api.ErrTrap || x != (api.Span{}) {
		t.Errorf("Steps(%v) of %v: %v, error %d", s, p, x, e)
	}
	if x, e := crossing.Cuts(p, s); e != api.ErrTrap || x != (api.Span{}) {
		t.Errorf("Cuts(%v) of %v: %v, error %d", s, p, x, e)
	}
	for _, most := range []bool{false, true} {
		if l, e := crossing.Trail(p, s, most); e != api.ErrTrap || len(l) != 0 {
			t.Errorf("Trail(%v, %v) of %v: %v, error %d", s, most, p, l, e)
		}
	}
}

func checkTrails(t *testing.T, p api.Pair, s api.State, trails [][]api.Move) {
	t.Helper()
	steps, cuts := api.Span{Lo: len(trails[0]), Hi: len(trails[0])}, api.Span{Lo: cutsOf(trails[0]), Hi: cutsOf(trails[0])}
	fewest, most := trails[0], trails[0]
	for _, l := range trails {
		n := cutsOf(l)
		steps = api.Span{Lo: min(steps.Lo, len(l)), Hi: max(steps.Hi, len(l))}
		cuts = api.Span{Lo: min(cuts.Lo, n), Hi: max(cuts.Hi, n)}
		if n < cutsOf(fewest) {
			fewest = l
		}
		if n > cutsOf(most) {
			most = l
		}
	}
	if x := must[api.Span](t, "Steps")(crossing.Steps(p, s)); x != steps {
		t.Errorf("Steps(%v) of %v: got %v, want %v", s, p, x, steps)
	}
	if x := must[api.Span](t, "Cuts")(crossing.Cuts(p, s)); x != cuts {
		t.Errorf("Cuts(%v) of %v: got %v, want %v", s, p, x, cuts)
	}
	wantMoves(t, "Trail", must[[]api.Move](t, "Trail")(crossing.Trail(p, s, false)), fewest)
	wantMoves(t, "Trail with most", must[[]api.Move](t, "Trail")(crossing.Trail(p, s, true)), most)
	for _, l := range [][]api.Move{fewest, most, trails[len(trails)/2]} {
		if n, e := crossing.CheckTrail(p, s, l); e != api.OK || n != cutsOf(l) {
			t.Errorf("CheckTrail(%v, %v) of %v: %d, error %d", s, l, p, n, e)
		}
	}
}

// P2.5: CheckTrail accepts trails and nothing else, also from trapped states; those from others are within Steps and Cuts.
func TestCheckTrail(t *testing.T) {
	r := rand.New(rand.NewPCG(13, 14))
	accepted, trapped := 0, 0
	for _, p := range samplePairs() {
		m := modelOf(p)
		for range 300 {
			s := m.states[r.IntN(len(m.states))]
			course := randomCourse(r, m, s)
			before := slices.Clone(course)
			n, e := crossing.CheckTrail(p, s, course)
			wantMoves(t, "the argument of CheckTrail", course, before)
			if !m.isTrail(s, course) {
				if e != api.ErrTrail || n != 0 {
					t.Fatalf("CheckTrail(%v, %v) of %v: %d, error %d", s, course, p, n, e)
				}
				continue
			}
			if e != api.OK || n != cutsOf(course) {
				t.Fatalf("CheckTrail(%v, %v) of %v: %d, error %d", s, course, p, n, e)
			}
			if !m.safe[s] {
				trapped++
				continue
			}
			accepted++
			steps, cuts := must[api.Span](t, "Steps")(crossing.Steps(p, s)), must[api.Span](t, "Cuts")(crossing.Cuts(p, s))
			if len(course) < steps.Lo || len(course) > steps.Hi || n < cuts.Lo || n > cuts.Hi {
				t.Fatalf("the trail %v from %v of %v is not within %v, %v", course, s, p, steps, cuts)
			}
		}
	}
	if accepted < 500 || trapped < 100 {
		t.Errorf("%d trails, %d from trapped states", accepted, trapped)
	}
}

// P2.1, C19: what is no trail, and trails from trapped states, with as many moves as may be.
func TestTrailsAndOthers(t *testing.T) {
	p := sampleTrap()
	for what, l := range map[string][]api.Move{
		"no moves":           nil,
		"a part of a trail":  {{Out: 1}},
		"a loop":             {{Side: 1}, {Side: 1}},
		"a move too many":    {{Out: 1}, {Out: 1, Cut: true}, {Out: 1, Cut: true}},
		"a trail and a half": {{Out: 1}, {Out: 1, Cut: true}, {Side: 1}},
		"no course":          {{Out: 1}, {Out: 1}},
		"no move at first":   {{Out: 1, Cut: true}, {Out: 1, Cut: true}},
	} {
		if n, e := crossing.CheckTrail(p, api.State{}, l); e != api.ErrTrail || n != 0 {
			t.Errorf("CheckTrail of %s: %d, error %d", what, n, e)
		}
	}
	for _, turns := range []int{0, 1, 2, 5, api.MaxStates, api.MaxTrail - 2, api.MaxTrail - 1, api.MaxTrail} {
		l := append(slices.Repeat([]api.Move{{Side: 1}}, turns), api.Move{Out: 1}, api.Move{Out: 1, Cut: true})
		n, e := crossing.CheckTrail(p, api.State{}, l)
		if len(l) > api.MaxTrail && (e != api.ErrLimit || n != 0) || len(l) <= api.MaxTrail && (e != api.OK || n != 1) {
			t.Errorf("CheckTrail of %d moves: %d, error %d", len(l), n, e)
		}
	}
	if n, e := crossing.CheckTrail(p, api.State{}, make([]api.Move, api.MaxTrail)); e != api.ErrTrail || n != 0 {
		t.Errorf("CheckTrail of moves that are none: %d, error %d", n, e)
	}
}

// P2.1, C18: of trails with the same number of cuts the first one is returned, whatever comes behind.
func TestFirstTrail(t *testing.T) {
	p := plain(2, 2)
	p.Drive[0] = []api.Move{{Out: 1, Side: -1}, {Out: 1, Side: 0, Cut: true}, {Out: 1, Side: 1}}
	wantMoves(t, "Trail", must[[]api.Move](t, "Trail")(crossing.Trail(p, api.State{}, false)), []api.Move{{Out: 1, Side: -1}, {Out: 1, Side: -1}})
	wantMoves(t, "Trail with most", must[[]api.Move](t, "Trail")(crossing.Trail(p, api.State{}, true)), []api.Move{{Out: 1, Cut: true}, {Out: 1, Cut: true}})
	// The first move has no cut, but the one behind it has; the second one has a cut, but none behind it.
	q := plain(2, 3)
	q.Bed = faceOf("s..", "f..")
	q.Drive[0] = []api.Move{{Out: 1}}
	q.Drive[3] = []api.Move{{Out: 1, Side: 0}, {Out: 1, Side: 1, Cut: true}}
	q.Drive[6] = []api.Move{{Out: 1, Side: 1, Cut: true}}
	for _, most := range []bool{false, true} {
		wantMoves(t, "Trail", must[[]api.Move](t, "Trail")(crossing.Trail(q, api.State{}, most)), []api.Move{{Out: 1}, {Out: 1, Side: 1, Cut: true}})
	}
	q.Drive[3] = []api.Move{{Out: 1, Side: -1, Cut: true}, {Out: 1, Side: 0}}
	for _, most := range []bool{false, true} {
		wantMoves(t, "Trail", must[[]api.Move](t, "Trail")(crossing.Trail(q, api.State{}, most)), []api.Move{{Out: 1, Side: -1, Cut: true}, {Out: 1}})
	}
}
