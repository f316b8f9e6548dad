package wear

import (
	"cmp"
	"iter"
	"slices"

	"millrind/api"
)

// groundCell is what the ground is named instead of a cell.
const groundCell = -1

// place is a cell at a slice, or the ground.
type place struct{ cell, slice int }

func ground() place { return place{groundCell, 0} }

func fromOf(b api.Bound) place { return place{b.From, b.FromAt} }

func toOf(b api.Bound) place { return place{b.To, b.ToAt} }

func inRows(p, q place) int {
	return cmp.Or(cmp.Compare(p.cell, q.cell), cmp.Compare(p.slice, q.slice))
}

// chart is the places of a story that its bounds have to be weighed at: the ground, those of the readings, those that are asked for, and the start of each cell of these. Between two of them only steps lead from one to the next one of a cell, and all other cells are told by their start and their steps alone; so a chart is small even where a story is large.
type chart struct {
	story  api.Story
	places []place // by cell, then slice: the ground is the first one
	index  map[place]int
}

func chartOf(s api.Story, asked ...place) chart {
	places := append([]place{ground()}, asked...)
	for _, x := range s.Readings {
		places = append(places, place{x.A, x.Slice})
		if x.B != groundCell {
			places = append(places, place{x.B, x.Slice})
		}
	}
	for _, p := range places {
		places = append(places, place{p.cell, 0})
	}
	slices.SortFunc(places, inRows)
	c := chart{s, slices.Compact(places), map[place]int{}}
	for i, p := range c.places {
		c.index[p] = i
	}
	return c
}

// way is a bound between two places of a chart; one whose Kind is BoundStep may stand for the bounds of several steps.
type way struct {
	from, to int
	bound    api.Bound
}

func (c chart) way(b api.Bound) way { return way{c.index[fromOf(b)], c.index[toOf(b)], b} }

// ways returns what leads from place to place in a world: two ways for each place but the ground, then two for each reading.
func (c chart) ways(v view) []way {
	var l []way
	add := func(b [2]api.Bound) { l = append(l, c.way(b[0]), c.way(b[1])) }
	for i, p := range c.places {
		switch {
		case p.cell == groundCell:
		case p.slice == 0:
			add(v.startBounds(p.cell))
		default:
			add(v.runBounds(c.places[i-1], p))
		}
	}
	for reading := range c.story.Readings {
		add(v.readingBounds(reading))
	}
	return l
}

// runBounds are what the bounds of all steps from a place of a cell to a later one amount to, there and back.
func (v view) runBounds(p, q place) [2]api.Bound {
	least, most := v.takes(p.cell, p.slice, q.slice)
	return twoBounds(p, q, -least, most, api.BoundStep, 0)
}

// unfold returns the bounds that ways stand for.
func (v view) unfold(l []way) []api.Bound {
	var bounds []api.Bound
	for _, w := range l {
		b := w.bound
		if b.Kind != api.BoundStep {
			bounds = append(bounds, b)
			continue
		}
		for at := b.FromAt; at < b.ToAt; at++ {
			bounds = append(bounds, v.stepBounds(at, b.From)[0])
		}
		for at := b.FromAt; at > b.ToAt; at-- {
			bounds = append(bounds, v.stepBounds(at-1, b.From)[1])
		}
	}
	return bounds
}

// living goes through the worlds that live, each with its tree from the ground.
func (c chart) living(views []view) iter.Seq2[view, tree] {
	return func(yield func(view, tree) bool) {
		for _, v := range views {
			t := c.tree(c.ways(v), ground(), false)
			if t.lives() && !yield(v, t) {
				return
			}
		}
	}
}
