package wear

import (
	"slices"

	"millrind/api"
)

// maxSuspects is the greatest number of readings of which Clash tries all sets.
const maxSuspects = 12

// Only returns a story with only some readings.
func Only(s api.Story, readings []int) (api.Story, api.Errno) {
	if e, _ := Check(s); e != api.OK {
		return api.Story{}, e
	}
	o := api.Story{Start: slices.Clone(s.Start), Heaps: slices.Clone(s.Heaps)}
	last := -1
	for _, i := range readings {
		if i <= last || i >= len(s.Readings) {
			return api.Story{}, api.ErrArg
		}
		o.Readings = append(o.Readings, s.Readings[i])
		last = i
	}
	for _, x := range s.Steps {
		x.Times = slices.Clone(x.Times)
		o.Steps = append(o.Steps, x)
	}
	return o, api.OK
}

// Clash returns the least set of readings that cannot all be true.
func Clash(s api.Story) ([]int, api.Errno) {
	if e, _ := Check(s); e != api.OK {
		return nil, e
	}
	if len(s.Readings) > maxSuspects || isWide(s) {
		return nil, api.ErrLimit
	}
	c := chartOf(s)
	var worlds [][]way
	for _, v := range viewsOf(s) {
		worlds = append(worlds, c.ways(v))
	}
	sets := []suspicion{{nil, worlds}}
	for len(sets) > 0 {
		var larger []suspicion
		for _, x := range sets {
			for k := x.next(); k < len(s.Readings); k++ {
				y := c.suspect(x, k)
				if len(y.worlds) == 0 {
					return y.set, api.OK
				}
				larger = append(larger, y)
			}
		}
		sets = larger
	}
	return nil, api.ErrNone
}

// suspicion is a set of readings, with the ways of the worlds that are not known to die of it, the first of which lives.
type suspicion struct {
	set    []int
	worlds [][]way
}

// next returns the first reading behind those of the set.
func (x suspicion) next() int {
	if len(x.set) == 0 {
		return 0
	}
	return x.set[len(x.set)-1] + 1
}

// suspect adds a reading. A world that died of fewer readings stays dead, and one that lives is enough: the others are not asked.
func (c chart) suspect(x suspicion, reading int) suspicion {
	y := suspicion{append(slices.Clone(x.set), reading), x.worlds}
	for len(y.worlds) > 0 && !c.livesWith(y.worlds[0], y.set) {
		y.worlds = y.worlds[1:]
	}
	return y
}

// livesWith reports whether a world lives with a set of readings alone.
func (c chart) livesWith(ways []way, set []int) bool {
	first := len(ways) - 2*len(c.story.Readings)
	chosen := slices.Clone(ways[:first])
	for _, k := range set {
		chosen = append(chosen, ways[first+2*k], ways[first+2*k+1])
	}
	return c.tree(chosen, ground(), false).lives()
}
