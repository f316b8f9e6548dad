package grain_test

import (
	"math"
	"math/rand/v2"
	"slices"
	"testing"

	"millrind/api"
	"millrind/crossing"
	"millrind/grain"
)

// P3.1: the chapter's examples of witnesses.
func TestWitnessExamples(t *testing.T) {
	n := sampleFree()
	wantMoves(t, "Witness", must[[]api.Move](t, "Witness")(grain.Witness(n, api.State{}, 2, 1)), []api.Move{{Out: 1, Cut: true}})
	for _, cuts := range []int{0, 2, -1, math.MinInt, math.MaxInt} {
		if l, e := grain.Witness(n, api.State{}, 2, cuts); e != api.ErrNone || len(l) != 0 {
			t.Errorf("Witness with %d cuts: %v, error %d", cuts, l, e)
		}
	}
}

// P3.1, G13, and P3.3: each number of a cut set has a witness, the first trail of all, and no other number has one.
func TestWitness(t *testing.T) {
	compared := 0
	for _, m := range sampleMills() {
		w := modelOf(m)
		for _, s := range w.states() {
			if w.trapped(s) {
				continue
			}
			trails := w.trails(s, 100)
			for _, size := range sizesFor(m) {
				l := w.cutSet(s, size)
				for cuts := l[0] - 1; cuts <= l[len(l)-1]+1; cuts++ {
					trail, e := grain.Witness(m, s, size, cuts)
					if !slices.Contains(l, cuts) {
						if e != api.ErrNone || len(trail) != 0 {
							t.Fatalf("Witness of %v with %d and %d cuts in %v: %v, error %d", s, size, cuts, m, trail, e)
						}
						continue
					}
					n, ok := w.cutsOf(s, size, trail)
					if e != api.OK || !ok || n != cuts {
						t.Fatalf("Witness of %v with %d and %d cuts in %v: %v, error %d", s, size, cuts, m, trail, e)
					}
					if got := must[int](t, "CheckWitness")(grain.CheckWitness(m, s, size, trail)); got != cuts {
						t.Fatalf("CheckWitness of a trail with %d cuts: %d", cuts, got)
					}
					if trails != nil {
						compared++
						wantMoves(t, "Witness", trail, firstTrail(w, s, size, cuts, trails))
					}
				}
			}
		}
	}
	if compared < 1000 {
		t.Errorf("%d trails compared", compared)
	}
}

// firstTrail returns the first one of trails in order that has these cuts.
func firstTrail(w model, s api.State, size, cuts int, trails [][]api.Move) []api.Move {
	for _, trail := range trails {
		if n, _ := w.cutsOf(s, size, trail); n == cuts {
			return trail
		}
	}
	return nil
}

// randomCourse follows moves of a state, now and then one that is none, or one behind the last one.
func randomCourse(r *rand.Rand, w model, s api.State) []api.Move {
	var l []api.Move
	g := api.Grain{At: s, Size: 1}
	for range r.IntN(14) {
		list := w.moves(g.At)
		x := list[r.IntN(len(list))]
		if r.IntN(40) == 0 {
			x = allMoves()[r.IntN(18)]
		}
		l = append(l, x)
		if !slices.Contains(list, x) {
			continue
		}
		to, out := w.step(g, x)
		if out && r.IntN(8) > 0 {
			break
		}
		g = to
	}
	return l
}

// P3.1, G14, and P3.3: CheckWitness accepts trails alone, and their cuts are in the cut set.
func TestCheckWitness(t *testing.T) {
	r := rand.New(rand.NewPCG(41, 42))
	accepted, refused, stuck := 0, 0, 0
	for _, m := range sampleMills() {
		w := modelOf(m)
		states := w.states()
		for range 100 {
			s, size := states[r.IntN(len(states))], sizesFor(m)[r.IntN(8)]
			l := randomCourse(r, w, s)
			before := slices.Clone(l)
			cuts, e := grain.CheckWitness(m, s, size, l)
			want, ok := w.cutsOf(s, size, l)
			switch {
			case !ok:
				refused++
				if e != api.ErrTrail || cuts != 0 {
					t.Fatalf("CheckWitness of %v with %d in %v by %v: %d, error %d", s, size, m, l, cuts, e)
				}
			case e != api.OK || cuts != want:
				t.Fatalf("CheckWitness of %v with %d in %v by %v: %d, error %d; want %d", s, size, m, l, cuts, e, want)
			case w.trapped(s):
				stuck++
			default:
				accepted++
				if !slices.Contains(cutSet(t, m, s, size), cuts) {
					t.Fatalf("the cuts of %v from %v with %d in %v are not in the cut set: %d", l, s, size, m, cuts)
				}
			}
			wantMoves(t, "the argument of CheckWitness", l, before)
		}
	}
	if accepted < 1000 || refused < 1000 || stuck < 200 {
		t.Errorf("%d trails, %d others, %d from trapped states", accepted, refused, stuck)
	}
}

// P3.1, G14: what is no trail, and lists that are too long.
func TestTrailsAndOthers(t *testing.T) {
	m := sampleTrap()
	aside, out := api.Move{Side: 1, Cut: true}, api.Move{Out: 1}
	for what, l := range map[string][]api.Move{
		"no moves":              nil,
		"no last move":          {aside},
		"a move behind":         {out, out},
		"a trail behind":        {out, aside, out},
		"a move that is none":   {{Out: 1, Cut: true}},
		"a late one":            {aside, {Side: 1}, out},
		"a huge move":           {{Out: math.MaxInt}},
		"as many as may be":     slices.Repeat([]api.Move{aside}, api.MaxTrail),
		"as many, none of them": make([]api.Move, api.MaxTrail),
	} {
		if n, e := grain.CheckWitness(m, api.State{}, 9, l); e != api.ErrTrail || n != 0 {
			t.Errorf("CheckWitness of %s: %d, error %d", what, n, e)
		}
	}
	// From 9 to 5, 3, 2 and 1, the last time where the grain comes back to the lesser gap once more.
	for n, want := range map[int]int{1: 0, 2: 1, 3: 2, 4: 3, 5: 3, 6: 4, 7: 4, api.MaxTrail: 4} {
		l := append(slices.Repeat([]api.Move{aside}, n-1), out)
		if cuts := must[int](t, "CheckWitness")(grain.CheckWitness(m, api.State{}, 9, l)); cuts != want {
			t.Errorf("CheckWitness of %d moves: %d", n, cuts)
		}
	}
	for _, l := range [][]api.Move{append(slices.Repeat([]api.Move{aside}, api.MaxTrail), out), make([]api.Move, api.MaxTrail+1)} {
		if n, e := grain.CheckWitness(m, api.State{}, 9, l); e != api.ErrLimit || n != 0 {
			t.Errorf("CheckWitness of %d moves: %d, error %d", len(l), n, e)
		}
	}
	// The cuts go on for ever where there is no gap at all.
	m.Gap = []int{0, 0}
	if n := must[int](t, "CheckWitness")(grain.CheckWitness(m, api.State{}, 9, append(slices.Repeat([]api.Move{aside}, api.MaxTrail-1), out))); n != api.MaxTrail-1 {
		t.Errorf("CheckWitness without gaps: %d", n)
	}
}

// P3.3 and P3.5: the trails of crossing.Trail have the cuts that CheckWitness tells of.
func TestTrailsOfCrossings(t *testing.T) {
	for _, m := range freeMills() {
		closed := withGaps(m, func(int) int { return 0 })
		for _, s := range modelOf(m).entries() {
			for _, most := range []bool{false, true} {
				trail := must[[]api.Move](t, "Trail")(crossing.Trail(m.Pair, s, most))
				cuts := must[int](t, "CheckTrail")(crossing.CheckTrail(m.Pair, s, trail))
				if n := must[int](t, "CheckWitness")(grain.CheckWitness(closed, s, 7, trail)); n != cuts {
					t.Errorf("CheckWitness of %v from %v in %v: %d, but CheckTrail %d", trail, s, m, n, cuts)
				}
				wantMoves(t, "Witness without gaps", must[[]api.Move](t, "Witness")(grain.Witness(closed, s, 7, cuts)), trail)
			}
		}
	}
}
