package grain_test

import (
	"math/rand/v2"
	"slices"
	"testing"

	"millrind/api"
	"millrind/crossing"
	"millrind/grain"
)

// P3.3 and P3.5 for mills with as many states as may be: all numbers from no cut to one with each step.
func TestLongTrails(t *testing.T) {
	m := winding(16, 64, []api.Move{{}, {Cut: true}}, []api.Move{{Side: -1}, {Side: -1, Cut: true}})
	s := api.State{Sector: 1, Turn: 2}
	steps := must[api.Span](t, "Steps")(crossing.Steps(m.Pair, s))
	cuts := must[api.Span](t, "Cuts")(crossing.Cuts(m.Pair, s))
	if steps.Hi < 10000 {
		t.Fatalf("the longest trail has %d steps only", steps.Hi)
	}
	l := cutSet(t, m, s, api.MaxSize)
	if len(l) != cuts.Hi-cuts.Lo+1 || l[0] != cuts.Lo || l[len(l)-1] != cuts.Hi {
		t.Errorf("CutSet: %d numbers from %d to %d; Cuts %v", len(l), l[0], l[len(l)-1], cuts)
	}
	for _, n := range []int{cuts.Lo, cuts.Hi, cuts.Hi / 3} {
		trail := must[[]api.Move](t, "Witness")(grain.Witness(m, s, api.MaxSize, n))
		if got := must[int](t, "CheckWitness")(grain.CheckWitness(m, s, api.MaxSize, trail)); got != n {
			t.Errorf("CheckWitness of a trail with %d cuts: %d", n, got)
		}
	}
	if _, e := grain.Witness(m, s, api.MaxSize, cuts.Hi+1); e != api.ErrNone {
		t.Errorf("Witness with more cuts than a trail has: error %d", e)
	}
}

// P3.1 for longer trails than other tests have: cut sets of many numbers, with wide holes between them.
func TestWideHoles(t *testing.T) {
	stay := [][]api.Move{{{}}, {{Cut: true}}, {{}, {Cut: true}}}
	aside := [][]api.Move{
		{{Side: -1, Cut: true}, {Out: 1}},
		{{Side: -1}, {Out: 1, Side: 1, Cut: true}},
		{{Side: -1}, {Side: -1, Cut: true}, {Out: 1, Side: -1}},
	}
	r := rand.New(rand.NewPCG(61, 62))
	widest := 0
	for _, still := range stay {
		for _, on := range aside {
			m := winding(3, 12, still, on)
			for i := range m.Gap {
				m.Gap[i] = r.IntN(2) * r.IntN(2) * r.IntN(30)
			}
			w := modelOf(m)
			for _, s := range w.entries()[:40] {
				l := cutSet(t, m, s, 60)
				wantInts(t, "CutSet", l, w.cutSet(s, 60))
				for i := range len(l) - 1 {
					widest = max(widest, l[i+1]-l[i])
				}
				n := l[r.IntN(len(l))]
				trail := must[[]api.Move](t, "Witness")(grain.Witness(m, s, 60, n))
				if got, ok := w.cutsOf(s, 60, trail); !ok || got != n {
					t.Fatalf("Witness of %v with %d cuts: %v", s, n, trail)
				}
			}
			size := api.Span{Lo: 20, Hi: 70}
			wantInts(t, "Entering", must[[]int](t, "Entering")(grain.Entering(m, size)), w.entering(size))
		}
	}
	if widest < 10 {
		t.Errorf("the widest hole has %d numbers only", widest)
	}
}

// P3.1 and P3.6 for mills with as many states as may be, many gaps and all sizes.
func TestLargeMills(t *testing.T) {
	r := rand.New(rand.NewPCG(63, 64))
	all := api.Span{Lo: 1, Hi: api.MaxSize}
	for _, size := range [][2]int{{16, 64}, {24, 52}, {7, 96}} {
		m := plain(size[0], size[1], 0, api.Move{Out: 1, Side: -1}, api.Move{Out: 1, Side: 0, Cut: true}, api.Move{Out: 1, Side: 1, Cut: true})
		m = withGaps(m, func(int) int { return r.IntN(api.MaxSize + 1) })
		l := must[[]int](t, "Entering")(grain.Entering(m, all))
		if l[0] != 0 || l[len(l)-1] < 5 || len(l) != l[len(l)-1]+1 {
			t.Errorf("Entering: %v", l)
		}
		if must[bool](t, "Ground")(grain.Ground(m, all)) {
			t.Error("there is a way without a cut")
		}
		for _, n := range cutSet(t, m, api.State{Sector: 3}, api.MaxSize) {
			if !slices.Contains(l, n) {
				t.Errorf("%d is not in %v", n, l)
			}
		}
		entries := size[1] * size[1]
		x := must[api.Sack](t, "SackOf")(grain.SackOf(m, []int{0, 1, 4}, api.Span{Lo: 91, Hi: 100}, 5))
		if sum(x.Least) > entries*50 || sum(x.Most) < entries*50 {
			t.Errorf("SackOf %d grains: %v", entries*50, x)
		}
	}
}
