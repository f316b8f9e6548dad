package crossing_test

import (
	"math/rand/v2"
	"slices"
	"strings"
	"testing"

	"millrind/api"
	"millrind/crossing"
)

// faceOf draws a face with the Eye 1: one string for each ring, from the eye to the skirt.
func faceOf(rings ...string) api.Face {
	f := api.Face{Eye: 1, Rings: len(rings), Sectors: len(rings[0])}
	for _, ring := range rings {
		for i := range len(ring) {
			f.Kinds = append(f.Kinds, strings.IndexByte(".sf", ring[i]))
		}
	}
	return f
}

// plainFace is all land.
func plainFace(rings, sectors int) api.Face {
	return api.Face{Eye: 1, Rings: rings, Sectors: sectors, Kinds: make([]int, rings*sectors)}
}

// driveOf has the list for each index that is given, and a move outward without a cut for all others.
func driveOf(lists map[int][]api.Move) [][]api.Move {
	var drive [][]api.Move
	for i := range api.Kinds * api.Kinds {
		list := []api.Move{{Out: 1}}
		if l, ok := lists[i]; ok {
			list = l
		}
		drive = append(drive, list)
	}
	return drive
}

// sample is the pair of the chapter's examples; steep is the list for land below a steep cell.
func sample(steep ...api.Move) api.Pair {
	return api.Pair{
		Bed:    plainFace(2, 2),
		Runner: faceOf("s.", ".."),
		Drive:  driveOf(map[int][]api.Move{0: {{Out: 1, Cut: true}}, 1: steep}),
	}
}

// sampleTrap is the chapter's pair, and sampleFree the one of its last example.
func sampleTrap() api.Pair { return sample(api.Move{Side: 1}, api.Move{Out: 1}) }
func sampleFree() api.Pair { return sample(api.Move{Out: 1}) }

// island is a free pair with the unreached states 3 and 7, at which a grain stays for ever and is cut with each step.
func island() api.Pair {
	return api.Pair{
		Bed:    faceOf(".s", ".f"),
		Runner: plainFace(2, 2),
		Drive:  driveOf(map[int][]api.Move{3: {{Out: 1, Side: 1}}, 6: {{Cut: true}}}),
	}
}

// winding is a pair on which a grain goes round many times before it gets a ring further out; a free one if the skirt has a way out.
func winding(rings, sectors int, free bool) api.Pair {
	p := api.Pair{Bed: plainFace(rings, sectors), Runner: plainFace(rings, sectors)}
	p.Drive = driveOf(map[int][]api.Move{0: {{}}, 1: {{Side: -1, Cut: true}}})
	for ring := range rings {
		p.Runner.Kinds[ring*sectors] = api.Steep
		if free || ring < rings-1 {
			p.Bed.Kinds[ring*sectors+ring%sectors] = api.Feather
		}
	}
	return p
}

// plain is a pair of land alone, from which each grain goes outward.
func plain(rings, sectors int) api.Pair {
	return api.Pair{Bed: plainFace(rings, sectors), Runner: plainFace(rings, sectors), Drive: driveOf(nil)}
}

func clonePair(p api.Pair) api.Pair {
	p.Bed.Kinds = slices.Clone(p.Bed.Kinds)
	p.Runner.Kinds = slices.Clone(p.Runner.Kinds)
	p.Drive = slices.Clone(p.Drive)
	for i, list := range p.Drive {
		p.Drive[i] = slices.Clone(list)
	}
	return p
}

func samePair(p, q api.Pair) bool {
	same := func(f, g api.Face) bool {
		return f.Eye == g.Eye && f.Rings == g.Rings && f.Sectors == g.Sectors && slices.Equal(f.Kinds, g.Kinds)
	}
	return same(p.Bed, q.Bed) && same(p.Runner, q.Runner) && slices.EqualFunc(p.Drive, q.Drive, slices.Equal[[]api.Move])
}

// allMoves returns all moves in the order of a list.
func allMoves() []api.Move {
	var l []api.Move
	for out := -1; out <= 1; out++ {
		for side := -1; side <= 1; side++ {
			l = append(l, api.Move{Out: out, Side: side}, api.Move{Out: out, Side: side, Cut: true})
		}
	}
	return l
}

// randomPair makes a pair of which about outward of ten moves go outward; a third of all such pairs cut with each move.
func randomPair(r *rand.Rand, rings, sectors, outward int) api.Pair {
	p := api.Pair{Bed: plainFace(rings, sectors), Runner: plainFace(rings, sectors)}
	p.Bed.Eye = 1 + r.IntN(api.MaxEye)
	p.Runner.Eye = p.Bed.Eye
	for i := range rings * sectors {
		p.Bed.Kinds[i] = r.IntN(api.Kinds)
		p.Runner.Kinds[i] = r.IntN(api.Kinds)
	}
	moves, sharp := allMoves(), r.IntN(3) == 0
	for range api.Kinds * api.Kinds {
		picks := map[int]bool{}
		for range 1 + r.IntN(api.MaxMoves) {
			pick := r.IntN(len(moves))
			if r.IntN(10) < outward {
				pick = 12 + r.IntN(6)
			}
			if sharp {
				pick |= 1
			}
			picks[pick] = true
		}
		var list []api.Move
		for i, m := range moves {
			if picks[i] {
				list = append(list, m)
			}
		}
		p.Drive = append(p.Drive, list)
	}
	return p
}

// samplePairs returns the pairs of the chapter and many small ones, free and not free.
func samplePairs() []api.Pair {
	pairs := []api.Pair{sampleTrap(), sampleFree(), island(), plain(1, 2), plain(3, 3), winding(2, 3, true), winding(2, 3, false), winding(3, 4, true)}
	r := rand.New(rand.NewPCG(3, 4))
	for _, size := range [][2]int{{1, 2}, {1, 3}, {2, 2}, {2, 3}, {3, 2}, {3, 3}, {2, 4}, {3, 5}} {
		for _, outward := range []int{4, 6, 8, 8, 9, 9, 10} {
			pairs = append(pairs, randomPair(r, size[0], size[1], outward))
		}
	}
	return pairs
}

// TestSamplePairs checks that the sample pairs have what the other tests look for.
func TestSamplePairs(t *testing.T) {
	free, notFree, unreached, islands, sharp := 0, 0, 0, 0, 0
	for _, p := range samplePairs() {
		m := modelOf(p)
		if !m.free() {
			notFree++
			continue
		}
		free++
		if l, e := crossing.LeastCuts(p); e == api.OK && leastOfEntries(m, l) > 1 {
			sharp++
		}
		reached := m.reach(m.entries())
		if len(reached) < len(m.states) {
			unreached++
		}
		for i, s := range m.states {
			if !m.safe[s] && !slices.Contains(reached, i) {
				islands++
				break
			}
		}
	}
	if free < 10 || notFree < 10 || unreached < 3 || islands < 1 || sharp < 3 {
		t.Errorf("%d free pairs, %d others, %d free ones with unreached states, %d with trapped ones among these; each grain is cut twice in %d", free, notFree, unreached, islands, sharp)
	}
}

func must[T any](t *testing.T, what string) func(T, api.Errno) T {
	return func(v T, e api.Errno) T {
		t.Helper()
		if e != api.OK {
			t.Fatalf("%s: error %d", what, e)
		}
		return v
	}
}

func wantInts(t *testing.T, what string, got, want []int) {
	t.Helper()
	if !slices.Equal(got, want) {
		t.Errorf("%s: got %v, want %v", what, got, want)
	}
}

func wantMoves(t *testing.T, what string, got, want []api.Move) {
	t.Helper()
	if !slices.Equal(got, want) {
		t.Errorf("%s: got %v, want %v", what, got, want)
	}
}
