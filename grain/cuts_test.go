package grain_test

import (
	"math/rand/v2"
	"slices"
	"testing"

	"millrind/api"
	"millrind/crossing"
	"millrind/grain"
)

// sizesFor returns sizes that gaps may tell apart, and the ends.
func sizesFor(m api.Mill) []int {
	l := []int{1, 2, 3, 5, 8, 30, 1000, api.MaxSize}
	for _, gap := range m.Gap[:2] {
		for _, size := range []int{gap, gap + 1, 2*gap + 1} {
			if size >= 1 && size <= api.MaxSize {
				l = append(l, size)
			}
		}
	}
	return l
}

// cutSet returns the cut set of a state that is not trapped.
func cutSet(t *testing.T, m api.Mill, s api.State, size int) []int {
	t.Helper()
	return must[[]int](t, "CutSet")(grain.CutSet(m, s, size))
}

// P3.1: the chapter's examples of cuts.
func TestCutExamples(t *testing.T) {
	if l, e := grain.CutSet(sampleTrap(), api.State{}, 2); e != api.ErrTrap || len(l) != 0 {
		t.Errorf("CutSet of a trapped state: %v, error %d", l, e)
	}
	n := sampleFree()
	wantInts(t, "CutSet above the gap 1", cutSet(t, n, api.State{}, 2), []int{1})
	wantInts(t, "CutSet above the gap 3", cutSet(t, n, api.State{Sector: 1}, 2), []int{0})
	wantInts(t, "Entering", must[[]int](t, "Entering")(grain.Entering(n, api.Span{Lo: 2, Hi: 2})), []int{0, 1})
	if !must[bool](t, "Ground")(grain.Ground(n, api.Span{Lo: 4, Hi: 9})) {
		t.Error("grains of the sizes 4 to 9 are cut")
	}
	for _, x := range []struct {
		size api.Span
		want api.Grain
	}{{api.Span{Lo: 1, Hi: 4}, api.Grain{Size: 1}}, {api.Span{Lo: 2, Hi: 9}, api.Grain{At: api.State{Sector: 1}, Size: 2}}, {api.Span{Lo: 3, Hi: 3}, api.Grain{At: api.State{Sector: 1}, Size: 3}}} {
		if g := must[api.Grain](t, "Whole")(grain.Whole(n, x.size)); g != x.want {
			t.Errorf("Whole of %v: %v", x.size, g)
		}
		if must[bool](t, "Ground")(grain.Ground(n, x.size)) {
			t.Errorf("Ground of %v", x.size)
		}
	}
	if g, e := grain.Whole(n, api.Span{Lo: 4, Hi: 9}); e != api.ErrNone || g != (api.Grain{}) {
		t.Errorf("Whole of none: %v, error %d", g, e)
	}
	// A state that is not trapped has a cut set, also if others are.
	if l := cutSet(t, sample(api.Move{Out: 1}), api.State{}, 2); !slices.Equal(l, []int{0}) {
		t.Errorf("CutSet without cuts: %v", l)
	}
	wantInts(t, "CutSet of an island", cutSet(t, island(), api.State{}, 3), []int{0, 1})
	if _, e := grain.CutSet(island(), api.State{Ring: 1, Sector: 1}, 3); e != api.ErrTrap {
		t.Errorf("CutSet of an island's trapped state: error %d", e)
	}
}

// P3.1, G8 and G9, and P3.3: cut sets are the cuts of all trails, and spans their ends.
func TestCutSets(t *testing.T) {
	states, counted := 0, 0
	for _, m := range sampleMills() {
		w := modelOf(m)
		for _, s := range w.states() {
			if w.trapped(s) {
				continue
			}
			states++
			trails := w.trails(s, 300)
			for _, size := range sizesFor(m) {
				l := cutSet(t, m, s, size)
				wantInts(t, "CutSet", l, w.cutSet(s, size))
				if x := must[api.Span](t, "CutSpan")(grain.CutSpan(m, s, size)); x != (api.Span{Lo: l[0], Hi: l[len(l)-1]}) {
					t.Errorf("CutSpan of %v with %d in %v: %v, but CutSet %v", s, size, m, x, l)
				}
				if trails != nil {
					counted++
					wantInts(t, "CutSet of counted trails", l, countTrails(w, s, size, trails))
				}
			}
			if t.Failed() {
				t.Fatalf("%v in %v", s, m)
			}
		}
	}
	if states < 500 || counted < 1000 {
		t.Errorf("%d states, %d cut sets counted", states, counted)
	}
}

// countTrails returns the cuts of trails, increasing, each number once.
func countTrails(w model, s api.State, size int, trails [][]api.Move) []int {
	var l []int
	for _, trail := range trails {
		cuts, _ := w.cutsOf(s, size, trail)
		l = append(l, cuts)
	}
	slices.Sort(l)
	return slices.Compact(l)
}

// P3.1: a state that is trapped has no cuts to tell of.
func TestTrappedStates(t *testing.T) {
	trapped := 0
	for _, m := range sampleMills() {
		w := modelOf(m)
		for _, s := range w.states() {
			if !w.trapped(s) {
				continue
			}
			trapped++
			if l, e := grain.CutSet(m, s, 5); e != api.ErrTrap || len(l) != 0 {
				t.Errorf("CutSet of %v in %v: %v, error %d", s, m, l, e)
			}
			if x, e := grain.CutSpan(m, s, 5); e != api.ErrTrap || x != (api.Span{}) {
				t.Errorf("CutSpan of %v in %v: %v, error %d", s, m, x, e)
			}
			if l, e := grain.Witness(m, s, 5, 0); e != api.ErrTrap || len(l) != 0 {
				t.Errorf("Witness of %v in %v: %v, error %d", s, m, l, e)
			}
			if l, e := grain.GradeSet(m, []int{0}, s, 5); e != api.ErrTrap || len(l) != 0 {
				t.Errorf("GradeSet of %v in %v: %v, error %d", s, m, l, e)
			}
		}
	}
	if trapped < 500 {
		t.Errorf("%d trapped states only", trapped)
	}
}

// P3.4: the cut set of a state is made of those behind its moves.
func TestCutSetsByStep(t *testing.T) {
	for _, m := range freeMills() {
		for _, s := range modelOf(m).entries() {
			for _, size := range []int{1, 4, 9, 77, api.MaxSize} {
				var all []int
				for _, x := range must[[]api.Move](t, "Moves")(crossing.Moves(m.Pair, s)) {
					to, out, e := grain.After(m, api.Grain{At: s, Size: size}, x)
					if e != api.OK {
						t.Fatalf("After: error %d", e)
					}
					behind := []int{0}
					if !out {
						behind = cutSet(t, m, to.At, to.Size)
					}
					for _, n := range behind {
						all = append(all, n+to.Cuts)
					}
				}
				slices.Sort(all)
				wantInts(t, "CutSet", cutSet(t, m, s, size), slices.Compact(all))
			}
		}
	}
}

// withGaps returns the mill with other gaps.
func withGaps(m api.Mill, gap func(i int) int) api.Mill {
	m = cloneMill(m)
	for i := range m.Gap {
		m.Gap[i] = gap(i)
	}
	return m
}

// P3.5: no grain is cut more often than its trail has cuts; without gaps just so often, with wide gaps not at all.
func TestCutsOfCrossings(t *testing.T) {
	for _, m := range sampleMills() {
		w := modelOf(m)
		for _, s := range w.states() {
			if w.trapped(s) {
				continue
			}
			cuts := must[api.Span](t, "Cuts")(crossing.Cuts(m.Pair, s))
			for _, size := range []int{1, 2, 13, 500, api.MaxSize} {
				if x := must[api.Span](t, "CutSpan")(grain.CutSpan(m, s, size)); x.Hi > cuts.Hi {
					t.Errorf("CutSpan of %v with %d in %v: %v, but Cuts %v", s, size, m, x, cuts)
				}
				closed := withGaps(m, func(int) int { return 0 })
				if x := must[api.Span](t, "CutSpan")(grain.CutSpan(closed, s, size)); x != cuts {
					t.Errorf("CutSpan of %v with %d and no gaps in %v: %v, but Cuts %v", s, size, m, x, cuts)
				}
				open := withGaps(m, func(i int) int { return min(size+i, api.MaxSize) })
				wantInts(t, "CutSet with wide gaps", cutSet(t, open, s, size), []int{0})
			}
		}
	}
}

// spans returns spans of sizes: single sizes, narrow ones and wide ones.
func spans(r *rand.Rand) []api.Span {
	l := []api.Span{{Lo: 1, Hi: 1}, {Lo: 1, Hi: 2}, {Lo: 1, Hi: 40}, {Lo: 4, Hi: 9}, {Lo: 20, Hi: 120}, {Lo: api.MaxSize - 9, Hi: api.MaxSize}}
	for range 4 {
		lo := 1 + r.IntN(90)
		l = append(l, api.Span{Lo: lo, Hi: lo + r.IntN(90)})
	}
	return l
}

// P3.1, G10 to G12, and P3.6: what grains that come in may do is what those of each entry and each size may do.
func TestEntering(t *testing.T) {
	r := rand.New(rand.NewPCG(33, 34))
	ground, whole, several := 0, 0, 0
	for _, m := range freeMills() {
		w := modelOf(m)
		for _, size := range spans(r) {
			l := must[[]int](t, "Entering")(grain.Entering(m, size))
			want := w.entering(size)
			wantInts(t, "Entering", l, want)
			if len(l) > 4 {
				several++
			}
			is := must[bool](t, "Ground")(grain.Ground(m, size))
			g, e := grain.Whole(m, size)
			wantGrain, found := firstWhole(w, size)
			if g != wantGrain || found != (e == api.OK) || is != (e == api.ErrNone) || is != !slices.Contains(want, 0) {
				t.Errorf("Whole of %v in %v: %v, error %d; Ground %v", size, m, g, e, is)
			}
			if is {
				ground++
			} else {
				whole++
			}
			if t.Failed() {
				t.Fatalf("%v in %v", size, m)
			}
		}
	}
	if ground < 30 || whole < 30 || several < 30 {
		t.Errorf("Ground of %d, not of %d; %d times more than 4 numbers", ground, whole, several)
	}
}

// P3.1, G10: all sizes at once.
func TestEnteringOfAllSizes(t *testing.T) {
	r := rand.New(rand.NewPCG(35, 36))
	for _, wide := range []int{9, 700, 2000, api.MaxSize + 1} {
		for range 3 {
			m := randomMill(r, 6, 2, 10, wide)
			wantInts(t, "Entering", must[[]int](t, "Entering")(grain.Entering(m, api.Span{Lo: 1, Hi: api.MaxSize})), modelOf(m).entering(api.Span{Lo: 1, Hi: api.MaxSize}))
		}
	}
}

// firstWhole looks for the first grain that may leave without a cut.
func firstWhole(w model, size api.Span) (api.Grain, bool) {
	for _, s := range w.entries() {
		for n := size.Lo; n <= size.Hi; n++ {
			if w.cutSet(s, n)[0] == 0 {
				return api.Grain{At: s, Size: n}, true
			}
		}
	}
	return api.Grain{}, false
}

// P3.1: the errors of mills in which an entry is trapped.
func TestTrappedEntries(t *testing.T) {
	last := sampleFree()
	last.Pair.Bed.Kinds[1] = api.Feather
	last.Pair.Drive[6] = []api.Move{{}}
	size := api.Span{Lo: 1, Hi: 4}
	for _, m := range []api.Mill{sampleTrap(), last} {
		if l, e := grain.Entering(m, size); e != api.ErrTrap || len(l) != 0 {
			t.Errorf("Entering: %v, error %d", l, e)
		}
		if is, e := grain.Ground(m, size); e != api.ErrTrap || is {
			t.Errorf("Ground: %v, error %d", is, e)
		}
		if g, e := grain.Whole(m, size); e != api.ErrTrap || g != (api.Grain{}) {
			t.Errorf("Whole: %v, error %d", g, e)
		}
		for _, each := range []int{0, 1} {
			if x, e := grain.SackOf(m, []int{0, 1}, size, each); e != api.ErrTrap || len(x.Least) != 0 || len(x.Most) != 0 {
				t.Errorf("SackOf: %v, error %d", x, e)
			}
		}
	}
	// States that no grain reaches may be trapped.
	wantInts(t, "Entering", must[[]int](t, "Entering")(grain.Entering(island(), size)), modelOf(island()).entering(size))
}

// P3.6: lesser gaps and spans within others stay ground, and a lesser grain may leave without a cut too.
func TestGround(t *testing.T) {
	r := rand.New(rand.NewPCG(37, 38))
	ground, whole := 0, 0
	for _, m := range freeMills() {
		for _, size := range spans(r) {
			is := must[bool](t, "Ground")(grain.Ground(m, size))
			if is {
				ground++
				lesser := withGaps(m, func(i int) int { return m.Gap[i] - min(m.Gap[i], r.IntN(3)) })
				within := api.Span{Lo: size.Lo + r.IntN(size.Hi-size.Lo+1), Hi: size.Hi}
				within.Hi -= r.IntN(within.Hi - within.Lo + 1)
				if !must[bool](t, "Ground")(grain.Ground(lesser, size)) || !must[bool](t, "Ground")(grain.Ground(m, within)) {
					t.Errorf("%v of %v is ground, but not with lesser gaps, or not %v", size, m, within)
				}
				continue
			}
			whole++
			g := must[api.Grain](t, "Whole")(grain.Whole(m, size))
			for n := 1; n <= g.Size; n += 1 + g.Size/20 {
				if cutSet(t, m, g.At, n)[0] != 0 {
					t.Errorf("%v of %v may leave without a cut, but not with the size %d", g, m, n)
				}
			}
		}
	}
	if ground < 30 || whole < 30 {
		t.Errorf("%d spans ground, %d not", ground, whole)
	}
}
