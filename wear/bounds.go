package wear

import (
	"iter"
	"slices"

	"millrind/api"
)

// maxHigh is the greatest number of heights, and its negative the least one.
const maxHigh = 1 << 60

// Bounds returns the bounds of a world.
func Bounds(s api.Story, world []int) ([]api.Bound, api.Errno) {
	v, e := openWorld(s, world)
	if e != api.OK {
		return nil, e
	}
	var l []api.Bound
	for b := range v.bounds() {
		l = append(l, b)
	}
	return l, api.OK
}

// Keeps reports whether heights keep all bounds of a world.
func Keeps(s api.Story, world []int, h [][]int) (bool, api.Errno) {
	v, e := openWorld(s, world)
	if e != api.OK {
		return false, e
	}
	if !areHeights(s, h) {
		return false, api.OK
	}
	keep := heights(h).keep
	for b := range v.bounds() {
		if !keep(b) {
			return false, api.OK
		}
	}
	return true, api.OK
}

// heights are a list of the heights of all cells for each slice.
type heights [][]int

func areHeights(s api.Story, h heights) bool {
	if len(h) != len(s.Steps)+1 {
		return false
	}
	for _, row := range h {
		if len(row) != len(s.Start) {
			return false
		}
		for _, n := range row {
			if n < -maxHigh || n > maxHigh {
				return false
			}
		}
	}
	return true
}

func (h heights) at(p place) int {
	if p.cell == groundCell {
		return 0
	}
	return h[p.slice][p.cell]
}

func (h heights) keep(b api.Bound) bool { return h.at(toOf(b)) <= h.at(fromOf(b))+b.Most }

// bounds goes through all bounds of a world, in order.
func (v view) bounds() iter.Seq[api.Bound] {
	return func(yield func(api.Bound) bool) {
		for cell := range v.story.Start {
			if !both(v.startBounds(cell), yield) {
				return
			}
		}
		for step := range v.story.Steps {
			for cell := range v.story.Start {
				if !both(v.stepBounds(step, cell), yield) {
					return
				}
			}
		}
		for reading := range v.story.Readings {
			if !both(v.readingBounds(reading), yield) {
				return
			}
		}
	}
}

// both yields two bounds, and reports whether there may be more.
func both(l [2]api.Bound, yield func(api.Bound) bool) bool { return yield(l[0]) && yield(l[1]) }

func (v view) startBounds(cell int) [2]api.Bound {
	x := v.story.Start[cell]
	return twoBounds(ground(), place{cell, 0}, x.Hi, -x.Lo, api.BoundStart, cell)
}

func (v view) stepBounds(step, cell int) [2]api.Bound {
	least, most := v.takes(cell, step, step+1)
	return twoBounds(place{cell, step}, place{cell, step + 1}, -least, most, api.BoundStep, step)
}

func (v view) readingBounds(reading int) [2]api.Bound {
	x := v.story.Readings[reading]
	below := ground()
	if x.B != groundCell {
		below = place{x.B, x.Slice}
	}
	return twoBounds(below, place{x.A, x.Slice}, x.Diff.Hi, -x.Diff.Lo, api.BoundReading, reading)
}

// twoBounds are those from a place to another one, and back.
func twoBounds(p, q place, there, back, kind, id int) [2]api.Bound {
	return [2]api.Bound{
		{From: p.cell, FromAt: p.slice, To: q.cell, ToAt: q.slice, Most: there, Kind: kind, ID: id},
		{From: q.cell, FromAt: q.slice, To: p.cell, ToAt: p.slice, Most: back, Kind: kind, ID: id},
	}
}

// takes returns what the steps from a slice to a later one take from a cell at least and at most.
func (v view) takes(cell, from, to int) (least, most int) {
	for _, x := range v.story.Steps[from:to] {
		lo, hi := x.Deep.Lo, x.Deep.Hi
		if x.Kind == api.StepPass {
			lo, hi = v.hard[x.Heap], v.hard[x.Heap]
		}
		least += x.Times[cell] * lo
		most += x.Times[cell] * hi
	}
	return least, most
}

// has reports whether a bound is one of this world: its Kind and ID leave only two that it may be, for steps with its cell.
func (v view) has(b api.Bound) bool {
	var l [2]api.Bound
	switch {
	case b.Kind == api.BoundStart && isCell(v.story, b.ID):
		l = v.startBounds(b.ID)
	case b.Kind == api.BoundStep && b.ID >= 0 && b.ID < len(v.story.Steps) && isCell(v.story, b.From):
		l = v.stepBounds(b.ID, b.From)
	case b.Kind == api.BoundReading && b.ID >= 0 && b.ID < len(v.story.Readings):
		l = v.readingBounds(b.ID)
	default:
		return false
	}
	return slices.Contains(l[:], b)
}
