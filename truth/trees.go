package truth

import "millrind/api"

// claim is that no lead whose sum is less than a number balances a rotor.
type claim struct {
	rotor
	number int
}

// Prove returns a tree that proves the least sum.
func Prove(s api.Stone) (api.Tree, int, api.Errno) {
	r, e := fewLeads(s)
	if e != api.OK {
		return api.Tree{}, 0, e
	}
	c := claim{rotor: r, number: r.room.highest().sum() + 1}
	if l, is := least(r.balancing(), lead.sum); is {
		c.number = l.sum()
	}
	return c.tree(r.room), c.number, api.OK
}

// CheckTree returns OK if a tree proves that no lead with a smaller sum balances a stone.
func CheckTree(s api.Stone, sum int, t api.Tree) (api.Errno, int) {
	r, e := rotorOf(s)
	if e != api.OK {
		return e, 0
	}
	if Nodes(t) > api.MaxTree {
		return api.ErrLimit, 0
	}
	leaves, is := claim{r, sum}.leaves(t, r.room)
	if !is {
		return api.ErrTree, 0
	}
	return api.OK, leaves
}

// Nodes returns the number of nodes of a tree.
func Nodes(t api.Tree) int {
	// Lists of kids that are still to be counted are kept here, since a tree may be as deep as it likes, or even a part of itself.
	lists := [][]api.Tree{{t}}
	nodes := 0
	for len(lists) > 0 {
		kids := lists[len(lists)-1]
		lists = lists[:len(lists)-1]
		if len(kids) > api.MaxTree-nodes {
			return api.MaxTree + 1
		}
		nodes += len(kids)
		for _, kid := range kids {
			lists = append(lists, kid.Kids)
		}
	}
	return nodes
}

// leaves returns how many leaves a tree has, and false if a node of it does not meet its condition. Each branch leaves a lesser box, so it ends.
func (c claim) leaves(t api.Tree, b box) (int, bool) {
	switch t.Kind {
	case api.TreeBranch:
		return c.leavesOfKids(t, b)
	case api.TreeSum:
		if t.Way != (api.Point{}) {
			return 0, false
		}
		fallthrough
	case api.TreeApart:
		if t.Pocket != 0 || t.At != 0 || len(t.Kids) > 0 || !c.holds(t, b) {
			return 0, false
		}
		return 1, true
	}
	return 0, false
}

func (c claim) leavesOfKids(t api.Tree, b box) (int, bool) {
	if !isFromTo(t.Pocket, 0, c.pockets-1) || t.Way != (api.Point{}) || len(t.Kids) != 2 {
		return 0, false
	}
	low, high, is := b.split(t.Pocket, t.At)
	if !is {
		return 0, false
	}
	first, is := c.leaves(t.Kids[0], low)
	if !is {
		return 0, false
	}
	second, is := c.leaves(t.Kids[1], high)
	if !is {
		return 0, false
	}
	return first + second, true
}

// holds reports whether what a leaf says is true of a box.
func (c claim) holds(leaf api.Tree, b box) bool {
	if leaf.Kind == api.TreeSum {
		return b.lowest().sum() >= c.number
	}
	return isWay(leaf.Way) && c.isApart(b, point(leaf.Way))
}
