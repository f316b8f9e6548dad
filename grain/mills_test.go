package grain_test

import (
	"math/rand/v2"
	"slices"
	"strings"
	"testing"

	"millrind/api"
	"millrind/crossing"
)

// faceOf draws a face with the Eye 1: one string for each ring, from the eye to the skirt.
func faceOf(rings ...string) api.Face {
	f := api.Face{Eye: 1, Rings: len(rings), Sectors: len(rings[0])}
	for _, ring := range rings {
		for i := range len(ring) {
			f.Kinds = append(f.Kinds, strings.IndexByte(".sf", ring[i]))
		}
	}
	return f
}

// plainFace is all land.
func plainFace(rings, sectors int) api.Face {
	return api.Face{Eye: 1, Rings: rings, Sectors: sectors, Kinds: make([]int, rings*sectors)}
}

// driveOf has the list for each index that is given, and a move outward without a cut for all others.
func driveOf(lists map[int][]api.Move) [][]api.Move {
	var drive [][]api.Move
	for i := range api.Kinds * api.Kinds {
		list := []api.Move{{Out: 1}}
		if l, ok := lists[i]; ok {
			list = l
		}
		drive = append(drive, list)
	}
	return drive
}

// sample is a mill of the chapter's examples; lands are the moves of two lands.
func sample(lands ...api.Move) api.Mill {
	m := api.Mill{Pair: api.Pair{Bed: plainFace(1, 2), Runner: plainFace(1, 2)}, Gap: []int{1, 3}}
	for range api.Kinds * api.Kinds {
		m.Pair.Drive = append(m.Pair.Drive, []api.Move{{Out: 1, Cut: true}})
	}
	m.Pair.Drive[0] = lands
	return m
}

// sampleTrap is the chapter's mill m, and sampleFree its mill n.
func sampleTrap() api.Mill {
	return sample(api.Move{Side: 1, Cut: true}, api.Move{Out: 1})
}
func sampleFree() api.Mill { return sample(api.Move{Out: 1, Cut: true}) }

// island is a free mill with a trapped state that no grain reaches: that above the cell {1, 1}, at each turn.
func island() api.Mill {
	p := api.Pair{
		Bed:    faceOf(".s", ".f"),
		Runner: plainFace(2, 2),
		Drive:  driveOf(map[int][]api.Move{0: {{Out: 1}, {Out: 1, Cut: true}}, 3: {{Out: 1, Side: 1}}, 6: {{Cut: true}}}),
	}
	return api.Mill{Pair: p, Gap: []int{1, 2, 3, 4}}
}

// plain is a mill of land alone with the same gap everywhere, from which each grain goes outward with one of some moves.
func plain(rings, sectors, gap int, moves ...api.Move) api.Mill {
	p := api.Pair{Bed: plainFace(rings, sectors), Runner: plainFace(rings, sectors), Drive: driveOf(map[int][]api.Move{0: moves})}
	return api.Mill{Pair: p, Gap: slices.Repeat([]int{gap}, rings*sectors)}
}

// winding is a free mill without gaps on which a grain goes round many times before it gets a ring further out; still are the moves where it stays, aside those where it goes on.
func winding(rings, sectors int, still, aside []api.Move) api.Mill {
	m := plain(rings, sectors, 0, still...)
	m.Pair.Drive[1] = aside
	for ring := range rings {
		m.Pair.Runner.Kinds[ring*sectors] = api.Steep
		m.Pair.Bed.Kinds[ring*sectors+ring%sectors] = api.Feather
	}
	return m
}

func cloneMill(m api.Mill) api.Mill {
	p := &m.Pair
	p.Bed.Kinds = slices.Clone(p.Bed.Kinds)
	p.Runner.Kinds = slices.Clone(p.Runner.Kinds)
	p.Drive = slices.Clone(p.Drive)
	for i, list := range p.Drive {
		p.Drive[i] = slices.Clone(list)
	}
	m.Gap = slices.Clone(m.Gap)
	return m
}

func sameMill(m, n api.Mill) bool {
	same := func(f, g api.Face) bool {
		return f.Eye == g.Eye && f.Rings == g.Rings && f.Sectors == g.Sectors && slices.Equal(f.Kinds, g.Kinds)
	}
	p, q := m.Pair, n.Pair
	return same(p.Bed, q.Bed) && same(p.Runner, q.Runner) && slices.EqualFunc(p.Drive, q.Drive, slices.Equal[[]api.Move]) && slices.Equal(m.Gap, n.Gap)
}

// allMoves returns all moves in the order of a list.
func allMoves() []api.Move {
	var l []api.Move
	for out := -1; out <= 1; out++ {
		for side := -1; side <= 1; side++ {
			l = append(l, api.Move{Out: out, Side: side}, api.Move{Out: out, Side: side, Cut: true})
		}
	}
	return l
}

// randomMill makes a mill of which about outward of ten moves go outward, with gaps less than wide.
func randomMill(r *rand.Rand, rings, sectors, outward, wide int) api.Mill {
	m := plain(rings, sectors, 0)
	m.Pair.Drive = nil
	for i := range rings * sectors {
		m.Pair.Bed.Kinds[i] = r.IntN(api.Kinds)
		m.Pair.Runner.Kinds[i] = r.IntN(api.Kinds)
		m.Gap[i] = r.IntN(wide)
	}
	moves := allMoves()
	for range api.Kinds * api.Kinds {
		picks := map[int]bool{}
		for range 1 + r.IntN(api.MaxMoves) {
			pick := r.IntN(len(moves))
			if r.IntN(10) < outward {
				pick = 12 + r.IntN(6)
			}
			picks[pick] = true
		}
		var list []api.Move
		for i, x := range moves {
			if picks[i] {
				list = append(list, x)
			}
		}
		m.Pair.Drive = append(m.Pair.Drive, list)
	}
	return m
}

// sampleMills returns the mills of the chapter and many small ones, free and not free.
func sampleMills() []api.Mill {
	twice := []api.Move{{Out: 1}, {Out: 1, Cut: true}}
	mills := []api.Mill{
		sampleTrap(), sampleFree(), island(), plain(2, 2, 1, twice...), plain(3, 2, 0, twice...),
		winding(2, 3, []api.Move{{}}, []api.Move{{Side: -1, Cut: true}}),
		winding(2, 3, []api.Move{{Cut: true}}, []api.Move{{Side: -1}, {Out: 1}}),
		winding(3, 3, []api.Move{{}}, []api.Move{{Side: -1}, {Side: -1, Cut: true}, {Out: 1, Cut: true}}),
	}
	r := rand.New(rand.NewPCG(31, 32))
	for _, size := range [][2]int{{1, 2}, {2, 2}, {2, 3}, {3, 2}, {3, 3}, {2, 4}, {5, 2}, {6, 3}} {
		for _, outward := range []int{5, 7, 8, 9, 10} {
			for _, wide := range []int{1, 4, 12, 60, api.MaxSize + 1} {
				mills = append(mills, randomMill(r, size[0], size[1], outward, wide))
			}
		}
	}
	return mills
}

// freeMills returns those of the sample mills that are free.
func freeMills() []api.Mill {
	return slices.DeleteFunc(sampleMills(), func(m api.Mill) bool {
		free, e := crossing.Free(m.Pair)
		return e != api.OK || !free
	})
}

// TestSampleMills checks that the sample mills have what the other tests look for.
func TestSampleMills(t *testing.T) {
	mills, free := sampleMills(), freeMills()
	holes, many := 0, 0
	for _, m := range free {
		w := modelOf(m)
		for _, s := range w.states() {
			if w.trapped(s) {
				continue
			}
			l := w.cutSet(s, 40)
			if len(l) > 3 {
				many++
			}
			if l[len(l)-1]-l[0] >= len(l) {
				holes++
			}
		}
	}
	if len(free) < 40 || len(mills)-len(free) < 40 || holes < 20 || many < 100 {
		t.Errorf("%d mills, of which %d are free; %d cut sets with holes, %d of more than 3 numbers", len(mills), len(free), holes, many)
	}
}

func must[T any](t *testing.T, what string) func(T, api.Errno) T {
	return func(v T, e api.Errno) T {
		t.Helper()
		if e != api.OK {
			t.Fatalf("%s: error %d", what, e)
		}
		return v
	}
}

func wantInts(t *testing.T, what string, got, want []int) {
	t.Helper()
	if !slices.Equal(got, want) {
		t.Errorf("%s: got %v, want %v", what, got, want)
	}
}

func wantMoves(t *testing.T, what string, got, want []api.Move) {
	t.Helper()
	if !slices.Equal(got, want) {
		t.Errorf("%s: got %v, want %v", what, got, want)
	}
}
