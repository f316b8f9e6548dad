package truth_test

import (
	"math/rand"
	"testing"

	"millrind/api"
	"millrind/truth"
)

// crowded is a stone with pockets that hold so much and have random arms, of which one random lead nearly balances it.
func crowded(rng *rand.Rand, most []int, arms, tol int) api.Stone {
	s := heavy(0, 0, tol)
	p := api.Point{}
	for _, n := range most {
		x := pocket(around(rng, arms), around(rng, arms), n)
		n = rng.Intn(n + 1)
		p = api.Point{X: p.X + n*x.Arm.X, Y: p.Y + n*x.Arm.Y}
		s.Pockets = append(s.Pockets, x)
	}
	s.Heights = []int{-p.X / 6, -p.Y / 6}
	return s
}

// P6.1, P6.3, T11: Prove finds a tree for each stone that is not rich, however its pockets are, and of no more than MaxTree nodes.
func TestProofsOfLargeStones(t *testing.T) {
	rng := rand.New(rand.NewSource(255))
	for _, most := range [][]int{
		{255, 255, 2}, {254, 254}, {199, 249, 3}, {57, 57, 57}, {20, 20, 20, 20}, {10, 10, 10, 10, 10}, {6, 6, 6, 6, 6, 6}, {4, 4, 4, 4, 4, 4, 4, 1},
		{3, 3, 3, 3, 3, 3, 3, 3}, {3, 3, 3, 3, 3, 3, 3, 11}, {2, 2, 2, 2, 2, 2, 2, 2}, {1, 1, 1, 1, 1, 1, 1, 1}, {255, 1, 1, 1, 1, 1, 1, 1},
	} {
		for _, tol := range []int{0, 30, 1000} {
			s := crowded(rng, most, 2000, tol)
			tree, n := proved(t, "a large stone", s)
			if k := truth.Nodes(tree); k > api.MaxTree {
				t.Errorf("the tree of %v has %d nodes", most, k)
			}
			least, e := truth.Least(s)
			if e == api.OK {
				want(t, "Prove", n, least)
			} else {
				wantError(t, "Least", e, api.ErrBalance)
				want(t, "Prove", n, total(most)+1)
			}
		}
	}
}

// P6.1, P6.3, T11: great arms to all sides, with which only small boxes are apart in a way, take large trees.
func TestGreatestProofs(t *testing.T) {
	for _, most := range [][]int{{4, 4, 4, 4, 4, 4, 4, 1}, {4, 4, 4, 4, 4, 4, 5, 1}, {3, 3, 3, 3, 3, 3, 3, 3}, {2, 2, 2, 2, 2, 2, 2, 2}, {255, 255, 2}, {255, 1, 1, 1, 1, 1, 1, 1}} {
		s := heavy(1, 1, 0)
		for i, n := range most {
			sign := 1 - i%2*2
			s.Pockets = append(s.Pockets, pocket(sign*(999999-i), sign*(i%3-1)*(777777+i*i), n))
		}
		tree, n := proved(t, "a stone with great arms", s)
		if k := truth.Nodes(tree); k > api.MaxTree || k < 3 {
			t.Errorf("the tree of %v has %d nodes", most, k)
		}
		least, e := truth.Least(s)
		if e != api.OK {
			least = total(most) + 1
		}
		want(t, "Prove", n, least)
	}
}

// fullTree has just so many leaves, all alike, for pockets that hold 255 each.
func fullTree(leaves int) api.Tree {
	rest := leaves - 1
	var grow func(pocket, low, high int) api.Tree
	grow = func(pocket, low, high int) api.Tree {
		if low == high {
			pocket, low, high = pocket+1, 0, 255
		}
		if rest == 0 || pocket == 8 {
			return apartX
		}
		rest--
		at := (low + high) / 2
		first := grow(pocket, low, at)
		return branch(pocket, at, first, grow(pocket, at+1, high))
	}
	return grow(0, 0, 255)
}

// P6.1, P6.3, T12, T13: trees with as many nodes as may be, also of rich stones; with more of them ErrLimit comes ahead of ErrTree.
func TestMostNodes(t *testing.T) {
	s := heavy(10, 0, 5)
	for range 8 {
		s.Pockets = append(s.Pockets, pocket(3, 0, 255))
	}
	tree := fullTree(100000)
	want(t, "Nodes", truth.Nodes(tree), 199999)
	e, leaves := truth.CheckTree(s, 9999, tree)
	wantError(t, "CheckTree", e, api.OK)
	want(t, "CheckTree", leaves, 100000)
	tree = fullTree(100001)
	want(t, "Nodes", truth.Nodes(tree), 200001)
	e, leaves = truth.CheckTree(s, 9999, tree)
	wantError(t, "CheckTree of too many nodes", e, api.ErrLimit)
	want(t, "CheckTree of too many nodes", leaves, 0)
	for n, e := range map[int]api.Errno{199999: api.ErrTree, 200000: api.ErrLimit, 300000: api.ErrLimit} {
		wide := api.Tree{Kids: make([]api.Tree, n)}
		want(t, "Nodes", truth.Nodes(wide), min(n+1, 200001))
		got, leaves := truth.CheckTree(s, 1, wide)
		wantError(t, "CheckTree of a wide tree", got, e)
		want(t, "CheckTree of a wide tree", leaves, 0)
	}
}

// P6.1, R1, T12, T13: trees that are as deep as they like, and a tree that is a part of itself.
func TestDeepTrees(t *testing.T) {
	deep := api.Tree{Kind: api.TreeBranch}
	for range 199999 {
		deep = branch(0, 0, deep)
	}
	want(t, "Nodes", truth.Nodes(deep), 200000)
	e, _ := truth.CheckTree(example(3), 1, deep)
	wantError(t, "CheckTree of a deep tree", e, api.ErrTree)
	for range 300000 {
		deep = branch(0, 0, deep)
	}
	want(t, "Nodes", truth.Nodes(deep), 200001)
	loop := branch(0, 0, sumLeaf, sumLeaf)
	loop.Kids[1] = loop
	want(t, "Nodes of a tree within itself", truth.Nodes(loop), 200001)
	e, _ = truth.CheckTree(example(3), 0, loop)
	wantError(t, "CheckTree of a tree within itself", e, api.ErrLimit)
	want(t, "Nodes of nothing", truth.Nodes(api.Tree{}), 1)
}

// P6.3: the deepest tree that a stone has, one lead after the other.
func TestDeepestProof(t *testing.T) {
	s := heavy(10, 0, 5)
	tree := apartX
	for k := range 8 {
		s.Pockets = append(s.Pockets, pocket(3, 0, 255))
		for at := range 255 {
			tree = branch(7-k, 254-at, apartX, tree)
		}
	}
	e, leaves := truth.CheckTree(s, 2041, tree)
	wantError(t, "CheckTree", e, api.OK)
	want(t, "CheckTree", leaves, 2041)
	e, _ = truth.CheckTree(s, 0, branch(8, 0, apartX, apartX))
	wantError(t, "CheckTree of a ninth pocket", e, api.ErrTree)
}
