package crossing

import (
	"slices"

	"millrind/api"
)

// Trapped reports whether a grain may stay for ever from a state on.
func Trapped(p api.Pair, s api.State) (bool, api.Errno) {
	c, e := chartAt(p, s)
	if e != api.OK {
		return false, e
	}
	_, loop := c.explore(c.number(s))
	return len(loop) > 0, api.OK
}

// Free reports whether no grain that comes in may stay for ever.
func Free(p api.Pair) (bool, api.Errno) {
	c, e := chartOf(p)
	if e != api.OK {
		return false, e
	}
	return c.free(), api.OK
}

// Loop returns moves from a state that come to a state twice.
func Loop(p api.Pair, s api.State) ([]api.Move, api.Errno) {
	c, e := chartAt(p, s)
	if e != api.OK {
		return nil, e
	}
	_, loop := c.explore(c.number(s))
	if len(loop) == 0 {
		return nil, api.ErrNone
	}
	return loop, api.OK
}

// CheckLoop returns OK if moves from a state come to a state twice.
func CheckLoop(p api.Pair, s api.State, l []api.Move) api.Errno {
	c, e := chartAt(p, s)
	if e != api.OK {
		return e
	}
	if len(l) > api.MaxTrail {
		return api.ErrLimit
	}
	passed, ok := c.follow(c.number(s), l)
	if !ok {
		return api.ErrTrail
	}
	last := len(passed) - 1
	if !slices.Contains(passed[:last], passed[last]) {
		return api.ErrTrail
	}
	return api.OK
}

func (c *chart) free() bool {
	_, loop := c.explore(c.entries()...)
	return len(loop) == 0
}

// explore returns the numbers of all states of courses from some states, each one behind all to which its moves come. If one of these states is trapped, it returns no states, but a loop from the first such one of from instead.
func (c *chart) explore(from ...int) (settled []int, loop []api.Move) {
	const (
		unseen = iota
		onTheWay
		done
	)
	marks := make([]byte, c.states())
	var way []api.Move
	var visit func(at int) bool
	visit = func(at int) bool {
		marks[at] = onTheWay
		for m, to := range c.moves(at) {
			if to == away || marks[to] == done {
				continue
			}
			way = append(way, m)
			if marks[to] == onTheWay || !visit(to) {
				return false
			}
			way = way[:len(way)-1]
		}
		marks[at] = done
		settled = append(settled, at)
		return true
	}
	for _, at := range from {
		if marks[at] == unseen && !visit(at) {
			return nil, way
		}
	}
	return settled, nil
}

// follow returns the numbers of the states to which a course comes, with that of its first state ahead, and away if its last move leaves; or false, if the moves are no course from there.
func (c *chart) follow(at int, course []api.Move) (passed []int, ok bool) {
	passed = append(passed, at)
steps:
	for _, step := range course {
		if at == away {
			return nil, false
		}
		for m, to := range c.moves(at) {
			if m == step {
				passed = append(passed, to)
				at = to
				continue steps
			}
		}
		return nil, false
	}
	return passed, true
}
