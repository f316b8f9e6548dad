package crossing_test

import (
	"math"
	"math/rand/v2"
	"slices"
	"testing"

	"millrind/api"
	"millrind/crossing"
)

// P2.1: the chapter's examples of cuts.
func TestCutExamples(t *testing.T) {
	p := sampleFree()
	l := must[[]int](t, "LeastCuts")(crossing.LeastCuts(p))
	wantInts(t, "LeastCuts", l, []int{1, 2, 1, 1, 2, 1, 1, 1})
	for _, x := range []struct {
		n    int
		want api.Errno
	}{{1, api.OK}, {0, api.OK}, {-1, api.OK}, {math.MinInt, api.OK}, {2, api.ErrRank}, {math.MaxInt, api.ErrRank}} {
		if e := crossing.CheckLeast(p, x.n, l); e != x.want {
			t.Errorf("CheckLeast for %d: error %d, want %d", x.n, e, x.want)
		}
	}
	if l, e := crossing.LeastCuts(sampleTrap()); e != api.ErrTrap || len(l) != 0 {
		t.Errorf("LeastCuts: %v, error %d", l, e)
	}
	wantInts(t, "LeastCuts with states that are not reached", must[[]int](t, "LeastCuts")(crossing.LeastCuts(island())), []int{0, 0, 0, -1, 0, 0, 0, -1})
	// Example 2 of the document: each entry leaves in one step, cut once.
	q := plain(1, 2)
	q.Drive[0] = []api.Move{{Out: 1, Cut: true}}
	wantInts(t, "Rank of one ring", must[[]int](t, "Rank")(crossing.Rank(q)), []int{1, 1, 1, 1})
	wantInts(t, "LeastCuts of one ring", must[[]int](t, "LeastCuts")(crossing.LeastCuts(q)), []int{1, 1, 1, 1})
}

// leastOfEntries returns the least number of cuts of all entries, in a table.
func leastOfEntries(m model, l []int) int {
	n := math.MaxInt
	for i, s := range m.states {
		if s.Ring == 0 {
			n = min(n, l[i])
		}
	}
	return n
}

// P2.6: CheckLeast accepts what LeastCuts returns, for the least number of all entries and no greater one.
func TestLeastCuts(t *testing.T) {
	for _, p := range samplePairs() {
		m := modelOf(p)
		l, e := crossing.LeastCuts(p)
		if !m.free() {
			if e != api.ErrTrap || len(l) != 0 {
				t.Errorf("LeastCuts of %v: %v, error %d", p, l, e)
			}
			for _, table := range [][]int{nil, make([]int, len(m.states)), {-2}} {
				if e := crossing.CheckLeast(p, 0, table); e != api.ErrTrap {
					t.Errorf("CheckLeast of %v, which is not free: error %d", p, e)
				}
			}
			continue
		}
		if e != api.OK {
			t.Fatalf("LeastCuts of %v: error %d", p, e)
		}
		reached := m.reach(m.entries())
		for i, s := range m.states {
			want := -1
			if slices.Contains(reached, i) {
				want = must[api.Span](t, "Cuts")(crossing.Cuts(p, s)).Lo
			}
			if i >= len(l) || l[i] != want {
				t.Fatalf("LeastCuts of %v: %v; for the state %d it ought to be %d", p, l, i, want)
			}
		}
		least := leastOfEntries(m, l)
		if e := crossing.CheckLeast(p, least, l); e != api.OK || !m.isCutTable(least, l) {
			t.Errorf("CheckLeast of %v for %d, %v: error %d", p, least, l, e)
		}
		if e := crossing.CheckLeast(p, least+1, l); e != api.ErrRank {
			t.Errorf("CheckLeast of %v for %d, %v: error %d", p, least+1, l, e)
		}
	}
}

// P2.6: all tables of small numbers: if CheckLeast accepts one for n, each trail from an entry has at least n cuts.
func TestAllSmallCutTables(t *testing.T) {
	r := rand.New(rand.NewPCG(15, 16))
	accepted := map[int]int{}
	for range 200 {
		p := randomPair(r, 1, 2, 8)
		m := modelOf(p)
		if !m.free() {
			continue
		}
		least := leastOfEntries(m, must[[]int](t, "LeastCuts")(crossing.LeastCuts(p)))
		for code := range 6 * 6 * 6 * 6 {
			l := []int{code%6 - 2, code/6%6 - 2, code/36%6 - 2, code/216 - 2}
			for n := -1; n <= 3; n++ {
				e := crossing.CheckLeast(p, n, l)
				if e == api.OK != m.isCutTable(n, l) || e != api.OK && e != api.ErrRank {
					t.Fatalf("CheckLeast of %v for %d, %v: error %d", p, n, l, e)
				}
				if e == api.OK && least < n {
					t.Fatalf("CheckLeast accepts %v of %v for %d, but the least number is %d", l, p, n, least)
				}
				if e == api.OK {
					accepted[n]++
				}
			}
		}
	}
	// A grain may leave with its first step, so that no pair of one ring has more cuts than one.
	if accepted[0] == 0 || accepted[1] == 0 || accepted[2] > 0 {
		t.Errorf("tables that were accepted: %v", accepted)
	}
}

// P2.6: CheckLeast accepts cut tables and nothing else.
func TestCheckLeast(t *testing.T) {
	r := rand.New(rand.NewPCG(17, 18))
	accepted, refused := 0, 0
	for _, p := range samplePairs() {
		m := modelOf(p)
		if !m.free() {
			continue
		}
		least := must[[]int](t, "LeastCuts")(crossing.LeastCuts(p))
		n := leastOfEntries(m, least)
		for range 100 {
			l := slices.Clone(least)
			for range r.IntN(3) {
				l[r.IntN(len(l))] += r.IntN(4) - 2
			}
			before := slices.Clone(l)
			want := api.ErrRank
			if m.isCutTable(n, l) {
				want = api.OK
				accepted++
			} else {
				refused++
			}
			if e := crossing.CheckLeast(p, n, l); e != want {
				t.Fatalf("CheckLeast of %v for %d, %v: error %d, want %d", p, n, l, e, want)
			}
			if e := crossing.CheckLeast(p, n+1, l); e != api.ErrRank {
				t.Fatalf("CheckLeast of %v for %d, %v: error %d, but the least number is %d", p, n+1, l, e, n)
			}
			wantInts(t, "the argument of CheckLeast", l, before)
		}
	}
	if accepted < 100 || refused < 100 {
		t.Errorf("%d cut tables, %d others", accepted, refused)
	}
}

// P2.1, C21: tables of the wrong length, and with numbers at the ends.
func TestCutTables(t *testing.T) {
	p := sampleFree()
	for what, l := range map[string][]int{
		"no numbers":               nil,
		"a number too few":         {1, 2, 1, 1, 2, 1, 1},
		"a number too many":        {1, 2, 1, 1, 2, 1, 1, 1},
		"an entry without number":  {1, 2, 1, 1, 2, -1, 1, 1},
		"a state without number":   {1, 2, 1, -1, 2, 1, 1, 1},
		"more than a leaving cut":  {1, 2, 1, 1, 2, 1, 2, 1},
		"more than a move grants":  {2, 2, 1, 1, 2, 1, 1, 1},
		"more than a cut grants":   {1, 3, 1, 1, 2, 1, 1, 1},
		"too great a number":       {1, 2, 1, 1, 2, 1, 1, math.MaxInt},
		"great numbers everywhere": slices.Repeat([]int{math.MaxInt}, 8),
		"small numbers everywhere": slices.Repeat([]int{math.MinInt}, 8),
	} {
		if what == "a number too many" {
			l = append(l, 1)
		}
		if e := crossing.CheckLeast(p, 0, l); e != api.ErrRank {
			t.Errorf("CheckLeast of %s: error %d", what, e)
		}
	}
	if e := crossing.CheckLeast(p, 0, make([]int, 8)); e != api.OK {
		t.Errorf("CheckLeast of zeros: error %d", e)
	}
	for _, x := range []struct {
		three, seven int
		want         api.Errno
	}{
		{-1, -1, api.OK}, {0, 0, api.OK}, {5, 4, api.OK}, {5, 3, api.ErrRank}, {3, 5, api.ErrRank}, {0, -1, api.ErrRank}, {-1, 0, api.ErrRank},
		{api.MaxStates, api.MaxStates, api.OK}, {api.MaxStates + 1, api.MaxStates, api.ErrRank}, {api.MaxStates + 1, api.MaxStates + 1, api.ErrRank},
		{-2, -1, api.ErrRank}, {-1, -2, api.ErrRank}, {math.MinInt, math.MinInt, api.ErrRank}, {math.MaxInt, math.MaxInt, api.ErrRank},
	} {
		if e := crossing.CheckLeast(island(), 0, []int{0, 0, 0, x.three, 0, 0, 0, x.seven}); e != x.want {
			t.Errorf("CheckLeast with %d and %d at the states that are not reached: error %d, want %d", x.three, x.seven, e, x.want)
		}
	}
}

// P0.3, as far as this layer goes: in a free pair each grain leaves after at most as many steps as the rank table says, cut at least as often as the cut table says, whatever moves are taken.
func TestGrainsLeave(t *testing.T) {
	r := rand.New(rand.NewPCG(19, 20))
	for _, p := range samplePairs() {
		m := modelOf(p)
		if !m.free() {
			continue
		}
		rank, least := must[[]int](t, "Rank")(crossing.Rank(p)), must[[]int](t, "LeastCuts")(crossing.LeastCuts(p))
		for i, s := range m.states {
			if s.Ring > 0 {
				continue
			}
			for range 5 {
				steps, cuts := walk(t, r, p, s, rank[i])
				if steps > rank[i] || cuts < least[i] {
					t.Errorf("a grain from %v of %v: %d steps (at most %d), %d cuts (at least %d)", s, p, steps, rank[i], cuts, least[i])
				}
			}
		}
	}
}

// walk takes moves until a grain leaves, or one step more than most.
func walk(t *testing.T, r *rand.Rand, p api.Pair, s api.State, most int) (steps, cuts int) {
	t.Helper()
	for steps <= most {
		list := must[[]api.Move](t, "Moves")(crossing.Moves(p, s))
		m := list[r.IntN(len(list))]
		steps++
		cuts += cutsOf([]api.Move{m})
		to, out, e := crossing.Next(p, s, m)
		if e != api.OK {
			t.Fatalf("Next: error %d", e)
		}
		if out {
			break
		}
		s = to
	}
	return steps, cuts
}
