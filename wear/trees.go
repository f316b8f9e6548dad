package wear

import (
	"math"
	"slices"
)

// far is the sum of a place that is not reached yet.
const far = math.MaxInt

// tree has for each place of a chart the least sum of ways from a root to it (or from it to the root, if it goes back), with the last one of them. If a world has a loop there are no least sums; then the tree has a ring of ways instead.
type tree struct {
	ways       []way
	back       bool
	sums, last []int // last is an index of ways, or none
	ring       int   // a place of a ring of last ways, or none
}

const none = -1

func (c chart) tree(ways []way, root place, back bool) tree {
	t := tree{
		ways: ways,
		back: back,
		sums: slices.Repeat([]int{far}, len(c.places)),
		last: slices.Repeat([]int{none}, len(c.places)),
		ring: none,
	}
	t.sums[c.index[root]] = 0
	t.settle()
	return t
}

// settle relaxes the heights of all places until none changes. In a world that does not live, a ring closes after at most as many rounds as there are places. Until then each sum is at least that of different ways, and so no sum wraps around.
func (t *tree) settle() {
	seen := make([]int, len(t.last))
rounds:
	for {
		changed := false
		for i, w := range t.ways {
			near, next := t.ends(w)
			if t.sums[near] == far {
				continue
			}
			if sum := t.sums[near] + w.bound.Most; sum < t.sums[next] {
				t.sums[next], t.last[next], changed = sum, i, true
			}
		}
		if !changed {
			break rounds
		}
		clear(seen)
		for at := range t.last {
			if t.ring = t.ringFrom(at, seen); t.ring != none {
				break rounds
			}
		}
	}
}

// ends returns the end of a way that is nearer to the root, and the other one.
func (t tree) ends(w way) (near, next int) {
	if t.back {
		return w.to, w.from
	}
	return w.from, w.to
}

// ringFrom follows the last ways from a place until the root, or a place from which they were followed before; a place that is met twice now is on a ring.
func (t tree) ringFrom(at int, seen []int) int {
	walk := at + 1
	for seen[at] == 0 {
		seen[at] = walk
		if t.last[at] == none {
			return none
		}
		at, _ = t.ends(t.ways[t.last[at]])
	}
	if seen[at] == walk {
		return at
	}
	return none
}

func (t tree) lives() bool { return t.ring == none }

// trail returns the ways of the tree between the root and a place, or those of the ring on which the place is, in the order in which they are gone.
func (t tree) trail(place int) []way {
	var l []way
	at := place
	for t.last[at] != none {
		w := t.ways[t.last[at]]
		l = append(l, w)
		if at, _ = t.ends(w); at == place {
			break
		}
	}
	if !t.back {
		slices.Reverse(l)
	}
	return l
}
