package grain

import (
	"millrind/api"
	"millrind/crossing"
)

// CutSet returns how often a grain may have been cut when it leaves.
func CutSet(m api.Mill, s api.State, size int) ([]int, api.Errno) {
	all, e := cutsAt(m, s, size)
	if e != api.OK {
		return nil, e
	}
	return all.list(), api.OK
}

// CutSpan returns the least and the greatest number of them.
func CutSpan(m api.Mill, s api.State, size int) (api.Span, api.Errno) {
	all, e := cutsAt(m, s, size)
	if e != api.OK {
		return api.Span{}, e
	}
	return all.span, api.OK
}

// Entering returns how often grains that come in may have been cut.
func Entering(m api.Mill, size api.Span) ([]int, api.Errno) {
	entries, e := safeEntries(m, size)
	if e != api.OK {
		return nil, e
	}
	find := chartOf(m).finder(size.Hi)
	all := find(crowd{at: entries[0], size: size})
	for _, s := range entries {
		all = all.joined(find(crowd{at: s, size: size}))
	}
	return all.list(), api.OK
}

// Ground reports whether each grain that comes in is cut.
func Ground(m api.Mill, size api.Span) (bool, api.Errno) {
	switch _, e := Whole(m, size); e {
	case api.OK:
		return false, api.OK
	case api.ErrNone:
		return true, api.OK
	default:
		return false, e
	}
}

// Whole returns the first grain that may leave without a cut.
func Whole(m api.Mill, size api.Span) (api.Grain, api.Errno) {
	entries, e := safeEntries(m, size)
	if e != api.OK {
		return api.Grain{}, e
	}
	find := chartOf(m).finder(size.Lo)
	for _, s := range entries {
		// A grain that may leave without a cut may do so with each lesser size.
		if find(alone(s, size.Lo)).has(0) {
			return api.Grain{At: s, Size: size.Lo}, api.OK
		}
	}
	return api.Grain{}, api.ErrNone
}

// Witness returns the first trail with just so many cuts.
func Witness(m api.Mill, s api.State, size, cuts int) ([]api.Move, api.Errno) {
	if e := checkSafe(m, s, size); e != api.OK {
		return nil, e
	}
	c := chartOf(m)
	find, g := c.finder(size), alone(s, size)
	if !find(g).has(cuts) {
		return nil, api.ErrNone
	}
	var trail []api.Move
	for out := false; !out; {
		var x api.Move
		x, g, cuts, out = c.first(g, cuts, find)
		trail = append(trail, x)
	}
	return trail, api.OK
}

// CheckWitness returns the number of cuts of a trail.
func CheckWitness(m api.Mill, s api.State, size int, l []api.Move) (cuts int, e api.Errno) {
	if e := checkAt(m, s, size); e != api.OK {
		return 0, e
	}
	if _, e := crossing.CheckTrail(m.Pair, s, l); e != api.OK {
		return 0, e
	}
	c := chartOf(m)
	g := api.Grain{At: s, Size: size}
	for _, x := range l {
		g, _ = c.step(g, x)
	}
	return g.Cuts, api.OK
}

// first returns the first move behind which a grain may have just so many more cuts when it leaves, with the grain after it, the cuts that are left, and whether it leaves. There is such a move.
func (c *chart) first(g crowd, cuts int, find func(crowd) counts) (x api.Move, to crowd, left int, out bool) {
	for _, x := range c.moves(g.at) {
		to, cut, out := c.follow(g, x)
		left := cuts - cut
		if out && left == 0 || !out && find(to).has(left) {
			return x, to, left, out
		}
	}
	return api.Move{}, crowd{}, 0, true
}

// checkSafe returns what is wrong with a mill, a state of it and a size first, or that the state is trapped.
func checkSafe(m api.Mill, s api.State, size int) api.Errno {
	if e := checkAt(m, s, size); e != api.OK {
		return e
	}
	trapped, e := crossing.Trapped(m.Pair, s)
	if trapped {
		return api.ErrTrap
	}
	return e
}

// cutsAt returns the cut set of a state and a size.
func cutsAt(m api.Mill, s api.State, size int) (counts, api.Errno) {
	if e := checkSafe(m, s, size); e != api.OK {
		return counts{}, e
	}
	find := chartOf(m).finder(size)
	return find(alone(s, size)), api.OK
}

// safeEntries returns all entries of a mill, or what is wrong with it and a span of sizes first, or that an entry is trapped.
func safeEntries(m api.Mill, size api.Span) ([]api.State, api.Errno) {
	if e := CheckMill(m); e != api.OK {
		return nil, e
	}
	if !isSpan(size, api.MaxSize) {
		return nil, api.ErrArg
	}
	free, e := crossing.Free(m.Pair)
	if e != api.OK {
		return nil, e
	}
	if !free {
		return nil, api.ErrTrap
	}
	return crossing.Entries(m.Pair)
}
