package crossing_test

import (
	"cmp"
	"slices"
	"testing"

	"millrind/api"
	"millrind/crossing"
	"millrind/stones"
)

// P2.1: the chapter's example of counts, and faces of which each cell has another number.
func TestCountExamples(t *testing.T) {
	p := sampleTrap()
	wantInts(t, "Counts", must[[]int](t, "Counts")(crossing.Counts(p)), []int{1, 1, 2, 2})
	wantInts(t, "RunnerCounts", must[[]int](t, "RunnerCounts")(crossing.RunnerCounts(p)), []int{0, 2, 2, 2})
	wantInts(t, "Counts without cuts", must[[]int](t, "Counts")(crossing.Counts(plain(1, 3))), []int{0, 0, 0})
	wantInts(t, "RunnerCounts without cuts", must[[]int](t, "RunnerCounts")(crossing.RunnerCounts(plain(1, 3))), []int{0, 0, 0})
	// A state counts once, however many of its moves have a cut, and also if only the last one has.
	q := api.Pair{Bed: faceOf("s.ff.."), Runner: faceOf(".s.s.s")}
	q.Drive = driveOf(map[int][]api.Move{
		1: {{Out: 0, Cut: true}, {Out: 1, Cut: true}},
		3: {{Out: 0}, {Out: 1, Cut: true}},
		6: {{Out: 0, Cut: true}, {Out: 1}},
		7: {{Out: 0}, {Out: 1, Cut: true}},
	})
	wantInts(t, "Counts of several cuts", must[[]int](t, "Counts")(crossing.Counts(q)), []int{3, 3, 6, 6, 3, 3})
	wantInts(t, "RunnerCounts of several cuts", must[[]int](t, "RunnerCounts")(crossing.RunnerCounts(q)), []int{3, 5, 3, 5, 3, 5})
}

// P2.1, C22 and C23, and P2.7: both lists count the same states, ring by ring.
func TestCounts(t *testing.T) {
	for _, p := range samplePairs() {
		m := modelOf(p)
		bed, runner := make([]int, m.rings*m.sectors), make([]int, m.rings*m.sectors)
		for _, s := range m.states {
			if cutsOf(m.moves(s)) > 0 {
				bed[s.Ring*m.sectors+s.Sector]++
				runner[s.Ring*m.sectors+m.wrap(s.Sector-s.Turn)]++
			}
		}
		gotBed, gotRunner := must[[]int](t, "Counts")(crossing.Counts(p)), must[[]int](t, "RunnerCounts")(crossing.RunnerCounts(p))
		wantInts(t, "Counts", gotBed, bed)
		wantInts(t, "RunnerCounts", gotRunner, runner)
		for ring := range m.rings {
			sums := [2]int{}
			for sector := range m.sectors {
				sums[0] += gotBed[ring*m.sectors+sector]
				sums[1] += gotRunner[ring*m.sectors+sector]
			}
			if sums[0] != sums[1] {
				t.Errorf("sums of the ring %d of %v: %v", ring, p, sums)
			}
		}
	}
}

// turned returns the pair with both faces turned by the same number of sectors.
func turned(t *testing.T, p api.Pair, by int) api.Pair {
	t.Helper()
	p.Bed = must[api.Face](t, "Turn")(stones.Turn(p.Bed, by))
	p.Runner = must[api.Face](t, "Turn")(stones.Turn(p.Runner, by))
	return p
}

// turnedList returns a list with a number for each cell, or for each state, turned by sectors.
func turnedList(l []int, sectors, by int) []int {
	turned := make([]int, len(l))
	for i, n := range l {
		sector := i % sectors
		turned[i-sector+((sector+by)%sectors+sectors)%sectors] = n
	}
	return turned
}

// P2.7 and P0.2: turning both faces of a pair turns its counts and its tables, and changes nothing else.
func TestTurnedPairs(t *testing.T) {
	for _, p := range samplePairs() {
		m := modelOf(p)
		for _, by := range []int{1, -1, m.sectors - 1, m.sectors, 1000003} {
			q := turned(t, p, by)
			same := func(what string, of func(api.Pair) ([]int, api.Errno)) {
				l, e := of(p)
				k, f := of(q)
				if e != f {
					t.Errorf("%s of %v: error %d; turned by %d: error %d", what, p, e, by, f)
				}
				wantInts(t, what+" of a turned pair", k, turnedList(l, m.sectors, by))
			}
			same("Counts", crossing.Counts)
			same("RunnerCounts", crossing.RunnerCounts)
			same("Rank", crossing.Rank)
			same("LeastCuts", crossing.LeastCuts)
			if must[bool](t, "Free")(crossing.Free(p)) != must[bool](t, "Free")(crossing.Free(q)) {
				t.Errorf("Free of %v turned by %d", p, by)
			}
			for _, s := range m.states[:min(20, len(m.states))] {
				checkTurnedState(t, p, q, s, api.State{Ring: s.Ring, Sector: m.wrap(s.Sector + by), Turn: s.Turn})
			}
		}
	}
}

// checkTurnedState checks that a state of a pair and that of the turned pair differ by nothing but the name.
func checkTurnedState(t *testing.T, p, q api.Pair, s, r api.State) {
	t.Helper()
	wantMoves(t, "Moves of a turned pair", must[[]api.Move](t, "Moves")(crossing.Moves(q, r)), must[[]api.Move](t, "Moves")(crossing.Moves(p, s)))
	if must[bool](t, "Trapped")(crossing.Trapped(p, s)) != must[bool](t, "Trapped")(crossing.Trapped(q, r)) {
		t.Errorf("Trapped(%v) of %v, turned", s, p)
	}
	steps, e := crossing.Steps(p, s)
	if x, f := crossing.Steps(q, r); x != steps || e != f {
		t.Errorf("Steps(%v) of %v, turned: %v, error %d", s, p, x, f)
	}
	for _, most := range []bool{false, true} {
		trail, _ := crossing.Trail(p, s, most)
		l, _ := crossing.Trail(q, r, most)
		wantMoves(t, "Trail of a turned pair", l, trail)
	}
}

// withMove returns the pair with a further move in a list, or false if the list has it, or is full.
func withMove(p api.Pair, list int, m api.Move) (api.Pair, bool) {
	if len(p.Drive[list]) == api.MaxMoves || slices.Contains(p.Drive[list], m) {
		return p, false
	}
	p = clonePair(p)
	order := allMoves()
	p.Drive[list] = append(p.Drive[list], m)
	slices.SortFunc(p.Drive[list], func(a, b api.Move) int { return cmp.Compare(slices.Index(order, a), slices.Index(order, b)) })
	return p, true
}

// P2.8: with a further move no span becomes smaller, and what is trapped stays trapped.
func TestFurtherMoves(t *testing.T) {
	grown, lost := 0, 0
	for _, p := range samplePairs() {
		m := modelOf(p)
		if len(m.states) > 30 {
			continue
		}
		for i, move := range allMoves() {
			q, ok := withMove(p, i%9, move)
			if !ok {
				continue
			}
			if e := crossing.Check(q); e != api.OK {
				t.Fatalf("Check of %v: error %d", q, e)
			}
			for _, s := range m.states {
				before, after := must[bool](t, "Trapped")(crossing.Trapped(p, s)), must[bool](t, "Trapped")(crossing.Trapped(q, s))
				switch {
				case before && !after:
					t.Errorf("%v of %v is trapped no more with %v", s, p, move)
				case after && !before:
					lost++
				case !after:
					grown += checkSpans(t, p, q, s)
				}
			}
		}
	}
	if grown < 20 || lost < 20 {
		t.Errorf("%d spans became greater, %d states were trapped", grown, lost)
	}
}

// checkSpans checks that the spans of a state are within those of the pair with a further move, and returns how many of them became greater.
func checkSpans(t *testing.T, p, q api.Pair, s api.State) int {
	t.Helper()
	grown := 0
	for _, of := range []func(api.Pair, api.State) (api.Span, api.Errno){crossing.Steps, crossing.Cuts} {
		x, y := must[api.Span](t, "a span")(of(p, s)), must[api.Span](t, "a span")(of(q, s))
		if y.Lo > x.Lo || y.Hi < x.Hi {
			t.Errorf("the span of %v of %v: %v; with a further move: %v", s, p, x, y)
		}
		if x != y {
			grown++
		}
	}
	return grown
}
