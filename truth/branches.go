package truth

import "millrind/api"

// shortWay is the greatest size of the ways that are tried for each box. Those of the size 1 are enough for a tree; the others make it smaller.
const shortWay = 6

// tree returns a tree that proves a true claim for the leads of a box.
func (c claim) tree(b box) api.Tree {
	if leaf, is := c.leaf(b); is {
		return leaf
	}
	pocket, at := c.cut(b)
	low, high, _ := b.split(pocket, at)
	return api.Tree{Kind: api.TreeBranch, Pocket: pocket, At: at, Kids: []api.Tree{c.tree(low), c.tree(high)}}
}

// leaf returns a leaf that is true of a box, and false if none is known.
func (c claim) leaf(b box) (api.Tree, bool) {
	if sum := (api.Tree{Kind: api.TreeSum}); c.holds(sum, b) {
		return sum, true
	}
	if way, is := c.apart(b, shortWay); is {
		return api.Tree{Kind: api.TreeApart, Way: api.Point(way)}, true
	}
	return api.Tree{}, false
}

// cut returns where to branch a box that no leaf is known for. The roomiest pocket of the stone is branched last: along a single pocket, the leads that are apart in a way at its lower end are followed by others that are apart in a way, or by such as have the sum already, so the box falls into two leaves. A tree has therefore at most 4 nodes for each lead of the other pockets. That is less than MaxTree for every stone that is not rich: either the roomiest pocket holds at least 3, or there are few leads.
func (c claim) cut(b box) (pocket, at int) {
	last := c.roomiest()
	pocket = last
	for i, x := range b {
		if i != last && x.Lo < x.Hi && (pocket == last || c.effect(b, i) > c.effect(b, pocket)) {
			pocket = i
		}
	}
	if pocket != last {
		return pocket, (b[pocket].Lo + b[pocket].Hi) / 2
	}
	for at = b[last].Hi - 1; at > b[last].Lo; at-- {
		low, _, _ := b.split(last, at)
		if _, is := c.leaf(low); is {
			break
		}
	}
	return last, at
}

// effect returns how much the lead of a pocket may change the moment within a box.
func (c claim) effect(b box, pocket int) int {
	return c.arms[pocket].times(b[pocket].Hi - b[pocket].Lo).size()
}

// roomiest returns the pocket that holds most.
func (c claim) roomiest() int {
	first, _ := least(upTo(len(c.room)), func(i int) int { return -c.room[i].Hi })
	return first
}
