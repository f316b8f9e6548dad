package wear

import (
	"slices"

	"millrind/api"
)

// maxPath is the greatest number of bounds of a loop or a path.
const maxPath = 30000

// Loop returns bounds that cannot all be kept.
func Loop(s api.Story, world []int) ([]api.Bound, api.Errno) {
	v, e := openWorld(s, world)
	if e != api.OK {
		return nil, e
	}
	c := chartOf(s)
	t := c.tree(c.ways(v), ground(), false)
	if t.lives() {
		return nil, api.ErrNone
	}
	return v.unfold(t.trail(t.ring)), api.OK
}

// CheckLoop reports whether bounds cannot all be kept.
func CheckLoop(s api.Story, world []int, l []api.Bound) (bool, api.Errno) {
	v, e := openWorld(s, world)
	if e != api.OK {
		return false, e
	}
	return v.isLoop(l), api.OK
}

// Path returns the bounds that force an end of a height.
func Path(s api.Story, world []int, slice, cell int, high bool) ([]api.Bound, api.Errno) {
	v, e := openWorld(s, world)
	if e != api.OK {
		return nil, e
	}
	if !isSlice(s, slice) || !isCell(s, cell) {
		return nil, api.ErrArg
	}
	p := place{cell, slice}
	x := v.prove(chartOf(s, p), p, high)
	if x.Loop {
		return nil, api.ErrClash
	}
	return x.Path, api.OK
}

// CheckPath returns the end that bounds prove.
func CheckPath(s api.Story, world []int, slice, cell int, high bool, l []api.Bound) (int, api.Errno) {
	v, e := openWorld(s, world)
	if e != api.OK {
		return 0, e
	}
	if !isSlice(s, slice) || !isCell(s, cell) {
		return 0, api.ErrArg
	}
	n, is := v.proved(place{cell, slice}, high, l)
	if !is {
		return 0, api.ErrProof
	}
	return n, api.OK
}

// Prove returns cases that prove an end of a height.
func Prove(s api.Story, slice, cell int, high bool) ([]api.Case, api.Errno) {
	views, e := openStory(s)
	if e != api.OK {
		return nil, e
	}
	if !isSlice(s, slice) || !isCell(s, cell) {
		return nil, api.ErrArg
	}
	var l []api.Case
	p := place{cell, slice}
	c := chartOf(s, p)
	lives := false
	for _, v := range views {
		x := v.prove(c, p, high)
		l = append(l, x)
		lives = lives || !x.Loop
	}
	if !lives {
		return nil, api.ErrClash
	}
	return l, api.OK
}

// CheckCases returns the end that cases prove.
func CheckCases(s api.Story, slice, cell int, high bool, l []api.Case) (int, api.Errno) {
	views, e := openStory(s)
	if e != api.OK {
		return 0, e
	}
	if !isSlice(s, slice) || !isCell(s, cell) {
		return 0, api.ErrArg
	}
	if len(l) != len(views) {
		return 0, api.ErrProof
	}
	var ends []int
	for i, v := range views {
		x := l[i]
		if !slices.Equal(x.World, v.hard) {
			return 0, api.ErrProof
		}
		if x.Loop && v.isLoop(x.Path) {
			continue
		}
		n, is := v.proved(place{cell, slice}, high, x.Path)
		if x.Loop || !is {
			return 0, api.ErrProof
		}
		ends = append(ends, n)
	}
	if len(ends) == 0 {
		return 0, api.ErrProof
	}
	if high {
		return slices.Max(ends), api.OK
	}
	return slices.Min(ends), api.OK
}

// prove returns what shows the end of the span of a place in this world, or that the world does not live.
func (v view) prove(c chart, p place, high bool) api.Case {
	t := c.tree(c.ways(v), ground(), !high)
	if !t.lives() {
		return api.Case{World: v.hard, Loop: true, Path: v.unfold(t.trail(t.ring))}
	}
	return api.Case{World: v.hard, Path: v.unfold(t.trail(c.index[p]))}
}

func (v view) isLoop(l []api.Bound) bool {
	if len(l) == 0 {
		return false
	}
	sum, is := follow(l, fromOf(l[0]), fromOf(l[0]), v.has)
	return is && sum < 0
}

// proved returns what a path proves of the end of the span of a place.
func (v view) proved(p place, high bool, l []api.Bound) (int, bool) {
	if high {
		return follow(l, ground(), p, v.has)
	}
	sum, is := follow(l, p, ground(), v.has)
	return -sum, is
}

// follow returns the sum of bounds that lead from a place to another one, each of which is asked for.
func follow(l []api.Bound, from, to place, is func(api.Bound) bool) (int, bool) {
	if len(l) == 0 || len(l) > maxPath {
		return 0, false
	}
	sum, at := 0, from
	for _, b := range l {
		if fromOf(b) != at || !is(b) {
			return 0, false
		}
		sum += b.Most
		at = toOf(b)
	}
	return sum, at == to
}
