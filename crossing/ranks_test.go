package crossing_test

import (
	"math"
	"math/rand/v2"
	"slices"
	"testing"

	"millrind/api"
	"millrind/crossing"
)

// P2.1: the chapter's examples of ranks, and states that are not reached.
func TestRankExamples(t *testing.T) {
	if l, e := crossing.Rank(sampleTrap()); e != api.ErrTrap || len(l) != 0 {
		t.Errorf("Rank: %v, error %d", l, e)
	}
	wantInts(t, "Rank of the free pair", must[[]int](t, "Rank")(crossing.Rank(sampleFree())), []int{2, 2, 1, 1, 2, 2, 1, 1})
	wantInts(t, "Rank with states that are not reached", must[[]int](t, "Rank")(crossing.Rank(island())), []int{2, 2, 1, -1, 2, 2, 1, -1})
	wantInts(t, "Rank of one ring", must[[]int](t, "Rank")(crossing.Rank(plain(1, 2))), []int{1, 1, 1, 1})
}

// P2.4: a pair is free if and only if Rank returns a table; CheckRank accepts it; reached states and no others have numbers.
func TestRank(t *testing.T) {
	for _, p := range samplePairs() {
		m := modelOf(p)
		l, e := crossing.Rank(p)
		if !m.free() {
			if e != api.ErrTrap || len(l) != 0 {
				t.Errorf("Rank of %v: %v, error %d", p, l, e)
			}
			continue
		}
		if e != api.OK || !m.isRankTable(l) || crossing.CheckRank(p, l) != api.OK {
			t.Fatalf("Rank of %v: %v, error %d", p, l, e)
		}
		reached := m.reach(m.entries())
		for i, n := range l {
			if !slices.Contains(reached, i) {
				if n != -1 {
					t.Errorf("Rank of %v: %d for the state %d, which is not reached", p, n, i)
				}
				continue
			}
			if want := must[api.Span](t, "Steps")(crossing.Steps(p, m.states[i])).Hi; n != want {
				t.Errorf("Rank of %v: %d for the state %d, want %d", p, n, i, want)
			}
			lesser := slices.Clone(l)
			lesser[i]--
			if e := crossing.CheckRank(p, lesser); e != api.ErrRank {
				t.Errorf("CheckRank of %v, less than Rank of %v at %d: error %d", lesser, p, i, e)
			}
		}
	}
}

// P2.4: all tables of small numbers: if CheckRank accepts one, the pair is free, and it is nowhere less than Rank.
func TestAllSmallRankTables(t *testing.T) {
	r := rand.New(rand.NewPCG(9, 10))
	accepted, refused := 0, 0
	for range 40 {
		p := randomPair(r, 1, 2, 3+r.IntN(7))
		m := modelOf(p)
		rank, e := crossing.Rank(p)
		found := false
		for code := range 6 * 6 * 6 * 6 {
			l := []int{code%6 - 1, code/6%6 - 1, code/36%6 - 1, code/216 - 1}
			is := crossing.CheckRank(p, l)
			if is == api.OK != m.isRankTable(l) || is != api.OK && is != api.ErrRank {
				t.Fatalf("CheckRank of %v, for %v: error %d", l, p, is)
			}
			if is != api.OK {
				continue
			}
			found = true
			for i := range l {
				if e != api.OK || l[i] < rank[i] {
					t.Fatalf("CheckRank accepts %v for %v; Rank: %v, error %d", l, p, rank, e)
				}
			}
		}
		if found != must[bool](t, "Free")(crossing.Free(p)) {
			t.Errorf("a rank table of %v: %v", p, found)
		}
		if found {
			accepted++
		} else {
			refused++
		}
	}
	if accepted < 5 || refused < 5 {
		t.Errorf("%d free pairs, %d others", accepted, refused)
	}
}

// P2.4: CheckRank accepts rank tables and nothing else, none for a pair that is not free.
func TestCheckRank(t *testing.T) {
	r := rand.New(rand.NewPCG(11, 12))
	accepted := 0
	for _, p := range samplePairs() {
		m := modelOf(p)
		rank, e := crossing.Rank(p)
		if e != api.OK {
			rank = make([]int, len(m.states))
			for i := range rank {
				rank[i] = 1 + r.IntN(6)
			}
		}
		for range 60 {
			l := slices.Clone(rank)
			for i := range l {
				l[i] *= 3
			}
			for range r.IntN(4) {
				l[r.IntN(len(l))] += r.IntN(7) - 3
			}
			before := slices.Clone(l)
			want := api.ErrRank
			if m.isRankTable(l) {
				want = api.OK
				accepted++
			}
			if got := crossing.CheckRank(p, l); got != want || want == api.OK && !m.free() {
				t.Fatalf("CheckRank of %v, for %v: error %d, want %d", l, p, got, want)
			}
			wantInts(t, "the argument of CheckRank", l, before)
		}
	}
	if accepted < 100 {
		t.Errorf("%d rank tables only", accepted)
	}
}

// P2.1, C15: tables of the wrong length, and with numbers at the ends.
func TestRankTables(t *testing.T) {
	p := sampleFree()
	great := math.MaxInt
	for what, l := range map[string][]int{
		"no numbers":              nil,
		"a number too few":        {2, 2, 1, 1, 2, 2, 1},
		"a number too many":       {2, 2, 1, 1, 2, 2, 1, 1, 1},
		"equal numbers":           {2, 2, 1, 1, 2, 2, 1, 2},
		"an entry without rank":   {2, 2, 1, 1, 2, 0, 1, 1},
		"a first entry without":   {-1, 2, 1, 1, 2, 2, 1, 1},
		"a state without rank":    {2, 2, 0, 1, 2, 2, 1, 1},
		"a state below the ranks": {2, 2, 1, math.MinInt, 2, 2, 1, 1},
		"a great number behind":   {2, 2, 1, 1, 2, 2, 1, great},
		"zeros":                   {0, 0, 0, 0, 0, 0, 0, 0},
	} {
		if e := crossing.CheckRank(p, l); e != api.ErrRank {
			t.Errorf("CheckRank of %s: error %d", what, e)
		}
	}
	for _, l := range [][]int{{2, 2, 1, 1, 2, 2, 1, 1}, {great, 9, 7, great - 1, 8, great, 1, 2}} {
		if e := crossing.CheckRank(p, l); e != api.OK {
			t.Errorf("CheckRank of %v: error %d", l, e)
		}
	}
	// Any number below 1 says that a state has none.
	for _, x := range []struct {
		three, seven int
		want         api.Errno
	}{{0, 0, api.OK}, {-1, 0, api.OK}, {math.MinInt, -7, api.OK}, {1, 0, api.ErrRank}, {0, 1, api.ErrRank}, {2, 1, api.ErrRank}, {1, 1, api.ErrRank}} {
		if e := crossing.CheckRank(island(), []int{2, 2, 1, x.three, 2, 2, 1, x.seven}); e != x.want {
			t.Errorf("CheckRank with %d and %d at the states that are not reached: error %d, want %d", x.three, x.seven, e, x.want)
		}
	}
}

// P2.4 and P2.5 for pairs with as many states as may be.
func TestLongRanks(t *testing.T) {
	p := winding(16, 64, true)
	rank := must[[]int](t, "Rank")(crossing.Rank(p))
	if e := crossing.CheckRank(p, rank); e != api.OK {
		t.Errorf("CheckRank: error %d", e)
	}
	top := slices.Index(rank, slices.Max(rank))
	s := must[api.State](t, "StateOf")(crossing.StateOf(p, top))
	if x := must[api.Span](t, "Steps")(crossing.Steps(p, s)); x.Lo != rank[top] || x.Hi != rank[top] || x.Hi < 60000 {
		t.Errorf("Steps: %v, want %d", x, rank[top])
	}
	trail := must[[]api.Move](t, "Trail")(crossing.Trail(p, s, false))
	n, e := crossing.CheckTrail(p, s, trail)
	if e != api.OK || len(trail) != rank[top] || n != cutsOf(trail) {
		t.Errorf("CheckTrail: %d, error %d", n, e)
	}
	least := must[[]int](t, "LeastCuts")(crossing.LeastCuts(p))
	if least[top] != n || crossing.CheckLeast(p, 0, least) != api.OK {
		t.Errorf("LeastCuts: %d, want %d", least[top], n)
	}
}
