package grain

import "millrind/api"

// crowd is grains of all sizes of a span that make the same moves: their state, the sizes that the least and the greatest one have by now, and how many more cuts the greatest one has.
//
// Two sizes that differ by 1 at first differ by no more after as many cuts. If the greater one is bitten alone, it is not greater than the other one any longer, so that it is bitten only where that one is bitten too: it never has 2 cuts more. Therefore the grains of a crowd have the cuts of the least one, those of the greatest one, and all numbers between these.
type crowd struct {
	at    api.State
	size  api.Span
	ahead int
}

// alone returns the crowd of a single size.
func alone(s api.State, size int) crowd {
	return crowd{at: s, size: api.Span{Lo: size, Hi: size}}
}

// follow returns a crowd after a step, how often its least grain is cut in it, and whether the crowd leaves.
func (c *chart) follow(g crowd, x api.Move) (to crowd, cuts int, out bool) {
	least, most := c.cuts(g.at, g.size.Lo, x), c.cuts(g.at, g.size.Hi, x)
	at, out := c.next(g.at, x)
	return crowd{
		at:    at,
		size:  api.Span{Lo: halved(g.size.Lo, least), Hi: halved(g.size.Hi, most)},
		ahead: g.ahead + most - least,
	}, least, out
}

// finder returns a function that finds the cuts that the grains of a crowd may have when they leave, where the least one has none yet. It is for states that are not trapped, and for sizes that are not greater than most.
func (c *chart) finder(most int) func(crowd) counts {
	found := map[crowd]counts{}
	alike := alikeSizes(c.gap, most)
	var find func(crowd) counts
	find = func(g crowd) counts {
		g.size = api.Span{Lo: alike[g.size.Lo], Hi: alike[g.size.Hi]}
		if all, known := found[g]; known {
			return all
		}
		var all counts
		for i, x := range c.moves(g.at) {
			to, cuts, out := c.follow(g, x)
			behind := counts{span: api.Span{Hi: to.ahead}}
			if !out {
				behind = find(to)
			}
			behind = behind.shifted(cuts)
			if i == 0 {
				all = behind
			} else {
				all = all.joined(behind)
			}
		}
		found[g] = all
		return all
	}
	return find
}

// alikeSizes returns, for each size up to most, the least one that is bitten by the same gaps, and again after each number of cuts.
func alikeSizes(gap []int, most int) []int {
	var wide [api.MaxSize + 1]bool
	for _, width := range gap {
		wide[width] = true
	}
	least := make([]int, most+1)
	for size := 1; size <= most; size++ {
		least[size] = size
		// A gap that is 1 less than the size bites it, but not the size before it.
		if size > 1 && !wide[size-1] && least[halved(size, 1)] == least[halved(size-1, 1)] {
			least[size] = least[size-1]
		}
	}
	return least
}
