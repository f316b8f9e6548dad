package crossing

import (
	"slices"

	"millrind/api"
)

// Rank returns, for each reached state, the greatest number of steps until a grain leaves.
func Rank(p api.Pair) ([]int, api.Errno) {
	c, e := chartOf(p)
	if e != api.OK {
		return nil, e
	}
	return c.reachedTable(stepOf, greatest)
}

// CheckRank returns OK if a table proves that no grain stays for ever.
func CheckRank(p api.Pair, l []int) api.Errno {
	c, e := chartOf(p)
	if e != api.OK {
		return e
	}
	if len(l) != c.states() || c.leastEntry(l) < 1 {
		return api.ErrRank
	}
	for at, rank := range l {
		if rank >= 1 && !c.rankHolds(at, l) {
			return api.ErrRank
		}
	}
	return api.OK
}

// Steps returns the least and the greatest number of steps until a grain leaves.
func Steps(p api.Pair, s api.State) (api.Span, api.Errno) {
	return spanAt(p, s, stepOf)
}

// Cuts returns the least and the greatest number of cuts until a grain leaves.
func Cuts(p api.Pair, s api.State) (api.Span, api.Errno) {
	return spanAt(p, s, cutOf)
}

// Trail returns the first trail with the least, or the greatest, number of cuts.
func Trail(p api.Pair, s api.State, most bool) ([]api.Move, api.Errno) {
	c, e := chartAt(p, s)
	if e != api.OK {
		return nil, e
	}
	at := c.number(s)
	settled, loop := c.explore(at)
	if len(loop) > 0 {
		return nil, api.ErrTrap
	}
	end := least
	if most {
		end = greatest
	}
	cuts := c.spans(settled, cutOf)
	var trail []api.Move
	for at != away {
		m, to := c.first(at, cuts, end)
		trail = append(trail, m)
		at = to
	}
	return trail, api.OK
}

// CheckTrail returns the number of cuts of a trail.
func CheckTrail(p api.Pair, s api.State, l []api.Move) (cuts int, e api.Errno) {
	c, e := chartAt(p, s)
	if e != api.OK {
		return 0, e
	}
	if len(l) > api.MaxTrail {
		return 0, api.ErrLimit
	}
	passed, ok := c.follow(c.number(s), l)
	if !ok || passed[len(passed)-1] != away {
		return 0, api.ErrTrail
	}
	for _, m := range l {
		cuts += cutOf(m)
	}
	return cuts, api.OK
}

func stepOf(api.Move) int { return 1 }

func least(x api.Span) int    { return x.Lo }
func greatest(x api.Span) int { return x.Hi }

// spanAt returns the least and the greatest sum of what the moves of a trail from a state count.
func spanAt(p api.Pair, s api.State, count func(api.Move) int) (api.Span, api.Errno) {
	c, e := chartAt(p, s)
	if e != api.OK {
		return api.Span{}, e
	}
	at := c.number(s)
	settled, loop := c.explore(at)
	if len(loop) > 0 {
		return api.Span{}, api.ErrTrap
	}
	return c.spans(settled, count)[at], api.OK
}

// reachedTable returns, for each reached state, an end of the span of what the moves of its trails count together, and -1 for all other states.
func (c *chart) reachedTable(count func(api.Move) int, end func(api.Span) int) ([]int, api.Errno) {
	settled, loop := c.explore(c.entries()...)
	if len(loop) > 0 {
		return nil, api.ErrTrap
	}
	spans := c.spans(settled, count)
	table := slices.Repeat([]int{-1}, c.states())
	fill(table, settled, func(at int) int { return end(spans[at]) })
	return table, api.OK
}

// spans returns, for each settled state, the least and the greatest sum of what the moves of its trails count.
func (c *chart) spans(settled []int, count func(api.Move) int) []api.Span {
	table := make([]api.Span, c.states())
	fill(table, settled, func(at int) api.Span {
		// No state comes twice on a trail of a settled state, so that no trail has more moves than there are states.
		all := api.Span{Lo: c.states()}
		for m, to := range c.moves(at) {
			x := through(count(m), to, table)
			all = api.Span{Lo: min(all.Lo, x.Lo), Hi: max(all.Hi, x.Hi)}
		}
		return all
	})
	return table
}

// through returns the span of the trails that begin with a move, from what it counts and where it comes to.
func through(count, to int, table []api.Span) api.Span {
	if to == away {
		return api.Span{Lo: count, Hi: count}
	}
	return api.Span{Lo: count + table[to].Lo, Hi: count + table[to].Hi}
}

// fill sets the numbers of some states in a table, one after the other: each one may be reckoned from those that are set already.
func fill[N int | api.Span](table []N, states []int, number func(at int) N) {
	for _, at := range states {
		n := number(at)
		table[at] = n
	}
}

// first returns the first move of a state with which a trail may have as many cuts as an end of the state's span tells, and where it comes to.
func (c *chart) first(at int, cuts []api.Span, end func(api.Span) int) (api.Move, int) {
	for m, to := range c.moves(at) {
		if end(through(cutOf(m), to, cuts)) == end(cuts[at]) {
			return m, to
		}
	}
	return api.Move{}, away
}

// rankHolds reports whether each move of a state leaves, or comes to a state with a lesser number in a table that is at least 1.
func (c *chart) rankHolds(at int, table []int) bool {
	for _, to := range c.moves(at) {
		if to != away && (table[to] < 1 || table[to] >= table[at]) {
			return false
		}
	}
	return true
}

// leastEntry returns the least number of an entry in a table.
func (c *chart) leastEntry(table []int) int {
	entries := c.entries()
	number := table[entries[0]]
	for _, at := range entries {
		number = min(number, table[at])
	}
	return number
}
