package crossing

import (
	"slices"

	"millrind/api"
)

// LeastCuts returns, for each reached state, the least number of cuts until a grain leaves.
func LeastCuts(p api.Pair) ([]int, api.Errno) {
	c, e := chartOf(p)
	if e != api.OK {
		return nil, e
	}
	return c.reachedTable(cutOf, least)
}

// CheckLeast returns OK if a table proves that each grain is cut at least n times.
func CheckLeast(p api.Pair, n int, l []int) api.Errno {
	c, e := chartOf(p)
	if e != api.OK {
		return e
	}
	if !c.free() {
		return api.ErrTrap
	}
	if len(l) != c.states() || slices.Min(l) < -1 || slices.Max(l) > api.MaxStates || c.leastEntry(l) < max(0, n) {
		return api.ErrRank
	}
	for at, cuts := range l {
		if cuts >= 0 && !c.cutsHold(at, l) {
			return api.ErrRank
		}
	}
	return api.OK
}

// cutsHold reports whether the number of a state in a table is no greater than each of its moves grants.
func (c *chart) cutsHold(at int, table []int) bool {
	for m, to := range c.moves(at) {
		behind := 0
		if to != away {
			behind = table[to]
		}
		if behind < 0 || table[at] > behind+cutOf(m) {
			return false
		}
	}
	return true
}

// Counts returns at how many turns of the runner each cell of the bed cuts.
func Counts(p api.Pair) ([]int, api.Errno) {
	c, e := chartOf(p)
	if e != api.OK {
		return nil, e
	}
	bed, _ := c.counts()
	return bed, api.OK
}

// RunnerCounts returns at how many turns of the runner each of its cells cuts.
func RunnerCounts(p api.Pair) ([]int, api.Errno) {
	c, e := chartOf(p)
	if e != api.OK {
		return nil, e
	}
	_, runner := c.counts()
	return runner, api.OK
}

// counts returns, for each cell of the bed and of the runner, the number of states at it where a grain may be cut.
func (c *chart) counts() (bed, runner []int) {
	bed, runner = make([]int, len(c.bed)), make([]int, len(c.runner))
	for i := range c.states() {
		if c.mayCut(i) {
			below, above := c.cells(c.stateOf(i))
			bed[below]++
			runner[above]++
		}
	}
	return bed, runner
}

func (c *chart) mayCut(i int) bool {
	for m := range c.moves(i) {
		if m.Cut {
			return true
		}
	}
	return false
}
