package truth_test

import (
	"math"
	"math/rand"
	"slices"
	"testing"

	"millrind/api"
	"millrind/truth"
)

var (
	sumLeaf = api.Tree{Kind: api.TreeSum}
	apartX  = api.Tree{Kind: api.TreeApart, Way: api.Point{X: 1}}
)

func branch(pocket, at int, kids ...api.Tree) api.Tree {
	return api.Tree{Kind: api.TreeBranch, Pocket: pocket, At: at, Kids: kids}
}

// P6.1, P6.3, T11 to T13: the examples of the chapter.
func TestExampleTrees(t *testing.T) {
	tree := branch(0, 1, apartX, sumLeaf)
	e, leaves := truth.CheckTree(example(3), 2, tree)
	wantError(t, "CheckTree", e, api.OK)
	want(t, "CheckTree", leaves, 2)
	want(t, "Nodes", truth.Nodes(tree), 3)
	_, n := proved(t, "the example", example(3))
	want(t, "Prove", n, 2)
	_, n = proved(t, "the example with less lead", example(1))
	want(t, "Prove where nothing balances", n, 4)
}

// P6.1, P6.3, T12: each field and each condition of each kind of node counts, at its very bounds.
func TestNodesOfTrees(t *testing.T) {
	s := heavy(2, 0, 4, pocket(-6, 0, 3), pocket(0, 7, 2))
	low := branch(0, 0, apartX, api.Tree{})
	with := func(change func(x *api.Tree)) api.Tree {
		x := branch(0, 1, apartX, sumLeaf)
		change(&x)
		return x
	}
	for _, x := range []struct {
		what   string
		tree   api.Tree
		sum    int
		leaves int
	}{
		{"the whole tree", with(func(*api.Tree) {}), 2, 2},
		{"a lesser number", with(func(*api.Tree) {}), -7, 2},
		{"the least number", with(func(*api.Tree) {}), math.MinInt, 2},
		{"a number too great", with(func(*api.Tree) {}), 3, 0},
		{"the greatest number", with(func(*api.Tree) {}), math.MaxInt, 0},
		{"nothing for the sum 0", sumLeaf, 0, 1},
		{"nothing for the sum 1", sumLeaf, 1, 0},
		{"not apart", apartX, 2, 0},
		{"no kind", api.Tree{}, 0, 0},
		{"a kind below 0", api.Tree{Kind: -1}, 0, 0},
		{"a kind too high", api.Tree{Kind: 4}, 0, 0},
		{"a sum with a pocket", api.Tree{Kind: api.TreeSum, Pocket: 1}, 0, 0},
		{"a sum with a number", api.Tree{Kind: api.TreeSum, At: -1}, 0, 0},
		{"a sum with a way", api.Tree{Kind: api.TreeSum, Way: api.Point{Y: 1}}, 0, 0},
		{"a sum with kids", api.Tree{Kind: api.TreeSum, Kids: []api.Tree{sumLeaf, sumLeaf}}, 0, 0},
		{"a sum with a list of no kids", api.Tree{Kind: api.TreeSum, Kids: []api.Tree{}}, 0, 1},
		{"apart with a pocket", with(func(x *api.Tree) { x.Kids[0].Pocket = 1 }), 2, 0},
		{"apart with a number", with(func(x *api.Tree) { x.Kids[0].At = 1 }), 2, 0},
		{"apart with kids", with(func(x *api.Tree) { x.Kids[0].Kids = []api.Tree{apartX, apartX} }), 2, 0},
		{"apart in no way", with(func(x *api.Tree) { x.Kids[0].Way = api.Point{} }), 2, 0},
		{"apart in a long way", with(func(x *api.Tree) { x.Kids[0].Way = api.Point{X: 100} }), 2, 2},
		{"apart in a way too long", with(func(x *api.Tree) { x.Kids[0].Way = api.Point{X: 101} }), 2, 0},
		{"apart in a way too long the other way", with(func(x *api.Tree) { x.Kids[0].Way = api.Point{X: 100, Y: -101} }), 2, 0},
		{"apart in the greatest way", with(func(x *api.Tree) { x.Kids[0].Way = api.Point{X: math.MaxInt, Y: math.MinInt} }), 2, 0},
		{"apart in the wrong way", with(func(x *api.Tree) { x.Kids[0].Way = api.Point{X: -1} }), 2, 0},
		{"apart in a way askew", with(func(x *api.Tree) { x.Kids[0].Way = api.Point{X: 3, Y: 1} }), 2, 2},
		{"apart in a way askew by no more than Tol", with(func(x *api.Tree) { x.Kids[0].Way = api.Point{X: 2, Y: 1} }), 2, 0},
		{"a branch with a way", with(func(x *api.Tree) { x.Way = api.Point{X: 1} }), 2, 0},
		{"a branch with one kid", with(func(x *api.Tree) { x.Kids = x.Kids[:1] }), 2, 0},
		{"a branch with three kids", with(func(x *api.Tree) { x.Kids = append(x.Kids, sumLeaf) }), 2, 0},
		{"a branch without kids", branch(0, 1), -1, 0},
		{"the kids in the other order", branch(0, 1, sumLeaf, apartX), 2, 0},
		{"a branch too low", branch(0, 0, apartX, sumLeaf), 2, 0},
		{"a branch too low, for a lesser number", branch(0, 0, apartX, sumLeaf), 1, 2},
		{"a branch too high", branch(0, 2, apartX, sumLeaf), 2, 0},
		{"another pocket", branch(1, 1, apartX, sumLeaf), 2, 0},
		{"both pockets", branch(1, 1, branch(0, 1, apartX, sumLeaf), sumLeaf), 2, 3},
		{"a branch below all lead", branch(0, -1, sumLeaf, sumLeaf), 0, 0},
		{"a branch above all lead", branch(0, 3, sumLeaf, sumLeaf), 0, 0},
		{"a branch at the least lead", branch(0, 0, sumLeaf, sumLeaf), 0, 2},
		{"a branch below the greatest lead", branch(0, 2, sumLeaf, sumLeaf), 0, 2},
		{"a branch at the least number", branch(0, math.MinInt, sumLeaf, sumLeaf), 0, 0},
		{"a branch at the greatest number", branch(0, math.MaxInt, sumLeaf, sumLeaf), 0, 0},
		{"a pocket below 0", branch(-1, 1, sumLeaf, sumLeaf), 0, 0},
		{"a pocket that the stone does not have", branch(2, 0, sumLeaf, sumLeaf), 0, 0},
		{"a pocket that no stone has", branch(8, 0, sumLeaf, sumLeaf), 0, 0},
		{"the least pocket", branch(math.MinInt, 0, sumLeaf, sumLeaf), 0, 0},
		{"the same branch twice", branch(0, 1, branch(0, 1, apartX, apartX), sumLeaf), 2, 0},
		{"the same branch twice, above", branch(0, 1, apartX, branch(0, 1, sumLeaf, sumLeaf)), 2, 0},
		{"a branch in a branch", branch(0, 1, branch(0, 0, apartX, apartX), branch(0, 2, sumLeaf, sumLeaf)), 2, 4},
		{"a kid that is nothing", low, -1, 0},
	} {
		e, leaves := truth.CheckTree(s, x.sum, x.tree)
		want(t, x.what+": CheckTree", leaves, x.leaves)
		if x.leaves == 0 {
			wantError(t, x.what+": CheckTree", e, api.ErrTree)
		} else {
			wantError(t, x.what+": CheckTree", e, api.OK)
		}
		first, upper := ends(s)
		want(t, x.what+": the model", modelLeaves(s, x.sum, x.tree, first, upper), x.leaves)
	}
}

// P6.1, P6.3, T12: a moment that goes just as far as Tol by a way is not apart.
func TestApartBeyondTol(t *testing.T) {
	for _, way := range []api.Point{{X: 1}, {X: 100}, {X: 1, Y: 1}, {X: 7, Y: 3}} {
		leaf := api.Tree{Kind: api.TreeApart, Way: way}
		e, leaves := truth.CheckTree(heavy(2, 2, 12), 1, leaf)
		wantError(t, "CheckTree", e, api.ErrTree)
		want(t, "CheckTree", leaves, 0)
		e, leaves = truth.CheckTree(heavy(2, 2, 11), 1, leaf)
		wantError(t, "CheckTree", e, api.OK)
		want(t, "CheckTree", leaves, 1)
	}
}

// P6.1, P6.3, P0.5, T11: the number that Prove proves for a small stone is the least sum, or one more than all lead; the tree is one by the chapter's table too.
func TestProofsOfSmallStones(t *testing.T) {
	eachSmallStone(2000, func(_ *rand.Rand, s api.Stone) {
		tree, n := proved(t, "a small stone", s)
		low, high := ends(s)
		least := total(high) + 1
		for _, l := range balancingOf(s) {
			least = min(least, total(l))
		}
		want(t, "Prove", n, least)
		if modelLeaves(s, n, tree, low, high) == 0 {
			t.Errorf("the tree %v does not prove %d", tree, n)
		}
	})
}

// randomTree is some tree; most of its nodes meet their conditions as far as the box goes.
func randomTree(rng *rand.Rand, s api.Stone, low, high []int, depth int) api.Tree {
	k := rng.Intn(len(low)+1) - 1
	if depth == 0 || k < 0 || low[k] == high[k] || rng.Intn(4) == 0 {
		if rng.Intn(2) == 0 {
			return sumLeaf
		}
		ways := []api.Point{{X: 1}, {X: -1}, {Y: 1}, {Y: -1}, {X: around(rng, 3), Y: around(rng, 3)}}
		for _, way := range ways {
			if goes(s, way, leadsWithin(low, high)).Lo > s.Tol*size(way) {
				return api.Tree{Kind: api.TreeApart, Way: way}
			}
		}
		return api.Tree{Kind: api.TreeApart, Way: ways[4]}
	}
	at := low[k] + rng.Intn(high[k]-low[k])
	upper, lower := slices.Clone(high), slices.Clone(low)
	upper[k], lower[k] = at, at+1
	return branch(k, at, randomTree(rng, s, low, upper, depth-1), randomTree(rng, s, lower, high, depth-1))
}

// P6.1, P6.3, T12: CheckTree accepts just what the chapter's table allows, whoever made it, and what it accepts shows that no lead with a lesser sum balances the stone.
func TestForeignTrees(t *testing.T) {
	accepted := 0
	eachSmallStone(3000, func(rng *rand.Rand, s api.Stone) {
		low, high := ends(s)
		tree := randomTree(rng, s, low, high, 4)
		balancing := balancingOf(s)
		for sum := -1; sum <= total(high)+2; sum++ {
			e, leaves := truth.CheckTree(s, sum, tree)
			want(t, "CheckTree", leaves, modelLeaves(s, sum, tree, low, high))
			want(t, "CheckTree returns OK", e == api.OK, leaves > 0)
			if e != api.OK {
				wantError(t, "CheckTree", e, api.ErrTree)
				continue
			}
			accepted++
			for _, l := range balancing {
				if total(l) < sum {
					t.Errorf("the lead %v balances the stone, but %d is proved by %v", l, sum, tree)
				}
			}
		}
	})
	if accepted < 1000 {
		t.Errorf("only %d trees are accepted", accepted)
	}
}

// P6.1, P6.3, T12: a tree in which a single field is another one is accepted only if the chapter's table allows it.
func TestChangedTrees(t *testing.T) {
	eachSmallStone(3000, func(rng *rand.Rand, s api.Stone) {
		tree, n := proved(t, "a small stone", s)
		x := &tree
		for len(x.Kids) > 0 && rng.Intn(3) > 0 {
			x = &x.Kids[rng.Intn(len(x.Kids))]
		}
		switch rng.Intn(6) {
		case 0:
			x.Kind = rng.Intn(5)
		case 1:
			x.Pocket = rng.Intn(4)
		case 2:
			x.At += around(rng, 1)
		case 3:
			x.Way = api.Point{X: around(rng, 1), Y: around(rng, 1)}
		case 4:
			x.Kids = append(x.Kids, sumLeaf)
		default:
			n += rng.Intn(2)
		}
		low, high := ends(s)
		e, leaves := truth.CheckTree(s, n, tree)
		want(t, "CheckTree", leaves, modelLeaves(s, n, tree, low, high))
		want(t, "CheckTree returns OK", e == api.OK, leaves > 0)
	})
}
