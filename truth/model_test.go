package truth_test

import (
	"math/rand"
	"slices"
	"testing"

	"millrind/api"
	"millrind/truth"
)

// example is the stone of the chapter's examples; most is what its first pocket holds.
func example(most int) api.Stone {
	return api.Stone{
		Face:    api.Face{Eye: 1, Rings: 1, Sectors: 4, Kinds: make([]int, 4)},
		Heights: []int{3, 1, 1, 1},
		Compass: []api.Point{{X: 1}, {Y: 1}, {X: -1}, {Y: -1}},
		Pockets: []api.Pocket{{Arm: api.Point{X: -6}, Most: most}, {Arm: api.Point{Y: 7}, Most: 2}},
		Tol:     4,
	}
}

// heavy is a stone with the moment {6 * x, 6 * y} without lead.
func heavy(x, y, tol int, pockets ...api.Pocket) api.Stone {
	return api.Stone{
		Face:    api.Face{Eye: 1, Rings: 1, Sectors: 2, Kinds: make([]int, 2)},
		Heights: []int{x, y},
		Compass: []api.Point{{X: 1}, {Y: 1}},
		Pockets: pockets,
		Tol:     tol,
	}
}

func pocket(x, y, most int) api.Pocket {
	return api.Pocket{Arm: api.Point{X: x, Y: y}, Most: most}
}

// around returns a random number from -n to n.
func around(rng *rand.Rand, n int) int { return rng.Intn(2*n+1) - n }

// smallStone is a random stone with few leads; about half of such stones can be balanced.
func smallStone(rng *rand.Rand) api.Stone {
	s := api.Stone{Face: api.Face{Eye: 1 + rng.Intn(3), Rings: 1 + rng.Intn(2), Sectors: 2 + rng.Intn(3)}, Tol: rng.Intn(25)}
	for range s.Face.Rings * s.Face.Sectors {
		s.Face.Kinds = append(s.Face.Kinds, rng.Intn(3))
		s.Heights = append(s.Heights, around(rng, 2))
	}
	for range s.Face.Sectors {
		s.Compass = append(s.Compass, api.Point{X: around(rng, 1), Y: around(rng, 1)})
	}
	for range rng.Intn(4) {
		s.Pockets = append(s.Pockets, pocket(around(rng, 30), around(rng, 30), rng.Intn(5)))
	}
	return s
}

func eachSmallStone(n int, check func(rng *rand.Rand, s api.Stone)) {
	for seed := range n {
		rng := rand.New(rand.NewSource(int64(seed)))
		check(rng, smallStone(rng))
	}
}

// modelMoment adds up, in the chapter's words, the moment with a lead.
func modelMoment(s api.Stone, lead []int) api.Point {
	p := api.Point{}
	for i, h := range s.Heights {
		ring, way := i/s.Face.Sectors, s.Compass[i%s.Face.Sectors]
		mass := (2*(s.Face.Eye+ring) + 1) * h
		p.X += mass * (s.Face.Eye + ring + 1) * way.X
		p.Y += mass * (s.Face.Eye + ring + 1) * way.Y
	}
	for i, n := range lead {
		p.X += s.Pockets[i].Arm.X * n
		p.Y += s.Pockets[i].Arm.Y * n
	}
	return p
}

func modelBalances(s api.Stone, lead []int) bool {
	p := modelMoment(s, lead)
	return -s.Tol <= p.X && p.X <= s.Tol && -s.Tol <= p.Y && p.Y <= s.Tol
}

// leadsWithin are all lists between two lists of ends, in order.
func leadsWithin(low, high []int) [][]int {
	if len(low) == 0 {
		return [][]int{nil}
	}
	var l [][]int
	for n := low[0]; n <= high[0]; n++ {
		for _, behind := range leadsWithin(low[1:], high[1:]) {
			l = append(l, append([]int{n}, behind...))
		}
	}
	return l
}

// ends are the lower and the upper ends of a stone's pockets.
func ends(s api.Stone) (low, high []int) {
	for _, p := range s.Pockets {
		low, high = append(low, 0), append(high, p.Most)
	}
	return low, high
}

func leadsOf(s api.Stone) [][]int { return leadsWithin(ends(s)) }

// balancingOf are all leads that balance a stone, in order.
func balancingOf(s api.Stone) [][]int {
	var l [][]int
	for _, x := range leadsOf(s) {
		if modelBalances(s, x) {
			l = append(l, x)
		}
	}
	return l
}

func total(list []int) int {
	n := 0
	for _, x := range list {
		n += x
	}
	return n
}

func size(p api.Point) int { return max(p.X, -p.X) + max(p.Y, -p.Y) }

// goes are the least and the greatest number that the moment goes by a way with some leads.
func goes(s api.Stone, way api.Point, leads [][]int) api.Span {
	var l []int
	for _, x := range leads {
		p := modelMoment(s, x)
		l = append(l, way.X*p.X+way.Y*p.Y)
	}
	return api.Span{Lo: slices.Min(l), Hi: slices.Max(l)}
}

// modelLeaves checks a node of a tree as the chapter's table says, with all leads in its box, and returns the number of leaves; 0, if a condition is not met.
func modelLeaves(s api.Stone, sum int, t api.Tree, low, high []int) int {
	bare, isLeaf := t.Pocket == 0 && t.At == 0, len(t.Kids) == 0
	switch {
	case t.Kind == api.TreeSum && bare && isLeaf && t.Way == api.Point{} && total(low) >= sum:
		return 1
	case t.Kind == api.TreeApart && bare && isLeaf && modelWay(t.Way) && goes(s, t.Way, leadsWithin(low, high)).Lo > s.Tol*size(t.Way):
		return 1
	case t.Kind == api.TreeBranch && len(t.Kids) == 2 && t.Way == api.Point{} && t.Pocket >= 0 && t.Pocket < len(low) && low[t.Pocket] <= t.At && t.At < high[t.Pocket]:
		upper, lower := slices.Clone(high), slices.Clone(low)
		upper[t.Pocket], lower[t.Pocket] = t.At, t.At+1
		first, second := modelLeaves(s, sum, t.Kids[0], low, upper), modelLeaves(s, sum, t.Kids[1], lower, high)
		if first > 0 && second > 0 {
			return first + second
		}
	}
	return 0
}

func modelWay(p api.Point) bool {
	return p != api.Point{} && max(p.X, -p.X, p.Y, -p.Y) <= 100
}

// gapsOf are the gaps above all cells of the bed at a turn, as the chapter says.
func gapsOf(f api.Face, bed, runner []int, lift, turn int) []int {
	l := make([]int, len(bed))
	for ring := range f.Rings {
		for sector := range f.Sectors {
			above := sector - turn
			if above < 0 {
				above += f.Sectors
			}
			l[ring*f.Sectors+sector] = lift - bed[ring*f.Sectors+sector] - runner[ring*f.Sectors+above]
		}
	}
	return l
}

// proved returns what Prove does, which must be accepted.
func proved(t *testing.T, what string, s api.Stone) (api.Tree, int) {
	t.Helper()
	tree, n, e := truth.Prove(s)
	wantError(t, what+": Prove", e, api.OK)
	e, leaves := truth.CheckTree(s, n, tree)
	wantError(t, what+": CheckTree", e, api.OK)
	want(t, what+": the leaves and the branches between them", truth.Nodes(tree), 2*leaves-1)
	return tree, n
}

// must returns the result of a call, which must have no error.
func must[T any](t *testing.T, what string) func(T, api.Errno) T {
	return func(v T, e api.Errno) T {
		t.Helper()
		if e != api.OK {
			t.Fatalf("%s: error %d", what, e)
		}
		return v
	}
}

func want[T comparable](t *testing.T, what string, got, want T) {
	t.Helper()
	if got != want {
		t.Errorf("%s: got %v, want %v", what, got, want)
	}
}

func wantList[T comparable](t *testing.T, what string, got, want []T) {
	t.Helper()
	if !slices.Equal(got, want) {
		t.Errorf("%s: got %v, want %v", what, got, want)
	}
}

func wantError(t *testing.T, what string, got, want api.Errno) {
	t.Helper()
	if got != want {
		t.Errorf("%s: error %d, want %d", what, got, want)
	}
}
