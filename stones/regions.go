package stones

import (
	"iter"

	"millrind/api"
)

// Neighbours returns the neighbours of a cell, in increasing order of their indices.
func Neighbours(f api.Face, c api.Cell) ([]api.Cell, api.Errno) {
	if e := checkCell(f, c); e != api.OK {
		return nil, e
	}
	var cells []api.Cell
	for next := range neighbours(f, c) {
		cells = append(cells, next)
	}
	return cells, api.OK
}

// Regions returns the indices of the cells of each region.
func Regions(f api.Face) ([][]int, api.Errno) {
	if !Valid(f) {
		return nil, api.ErrFace
	}
	return regions(f), api.OK
}

// RegionOf returns the number of the region of a cell.
func RegionOf(f api.Face, c api.Cell) (int, api.Errno) {
	if e := checkCell(f, c); e != api.OK {
		return 0, e
	}
	numbers, _ := numberRegions(f)
	return numbers[c], api.OK
}

// Dead returns the numbers of all regions of furrow cells that do not reach the skirt.
func Dead(f api.Face) ([]int, api.Errno) {
	if !Valid(f) {
		return nil, api.ErrFace
	}
	skirt := (f.Rings - 1) * f.Sectors
	var dead []int
	for n, cells := range regions(f) {
		last := cells[len(cells)-1]
		if isFurrow(f.Kinds[last]) && last < skirt {
			dead = append(dead, n)
		}
	}
	return dead, api.OK
}

// Drains reports whether all regions of furrow cells reach the skirt.
func Drains(f api.Face) (bool, api.Errno) {
	dead, e := Dead(f)
	return e == api.OK && len(dead) == 0, e
}

// neighbours yields the neighbours of a cell, in increasing order of their indices.
func neighbours(f api.Face, c api.Cell) iter.Seq[api.Cell] {
	before, behind := round(c.Sector-1, f.Sectors), round(c.Sector+1, f.Sectors)
	near := [4][2]int{
		{c.Ring - 1, c.Sector},
		{c.Ring, min(before, behind)},
		{c.Ring, max(before, behind)},
		{c.Ring + 1, c.Sector},
	}
	return func(yield func(api.Cell) bool) {
		for i, at := range near {
			if at[0] < 0 || at[0] >= f.Rings {
				continue
			}
			// Of two sectors, each one is both before and behind the other one.
			if i > 0 && at == near[i-1] {
				continue
			}
			if !yield(api.Cell{Ring: at[0], Sector: at[1]}) {
				return
			}
		}
	}
}

// regions returns the indices of the cells of each region of a valid face, increasing.
func regions(f api.Face) [][]int {
	numbers, count := numberRegions(f)
	list := make([][]int, count)
	for i := range f.Kinds {
		n := numbers[cellAt(f, i)]
		list[n] = append(list[n], i)
	}
	return list
}

// numberRegions returns the number of the region of each cell of a valid face, and how many regions there are.
func numberRegions(f api.Face) (map[api.Cell]int, int) {
	numbers := make(map[api.Cell]int, len(f.Kinds))
	var open []api.Cell
	count, next := 0, 0
look:
	for {
		switch {
		case len(open) > 0:
			c := open[len(open)-1]
			open = spread(f, c, numbers, open[:len(open)-1])
		case next < len(f.Kinds):
			c := cellAt(f, next)
			next++
			if _, known := numbers[c]; !known {
				numbers[c] = count
				count++
				open = append(open, c)
			}
		default:
			break look
		}
	}
	return numbers, count
}

// spread takes those neighbours of a cell into its region that are not in it yet, and appends them to the cells that are still to be looked at.
func spread(f api.Face, c api.Cell, numbers map[api.Cell]int, open []api.Cell) []api.Cell {
	furrow := isFurrow(kindAt(f, c))
	for next := range neighbours(f, c) {
		if _, known := numbers[next]; known || isFurrow(kindAt(f, next)) != furrow {
			continue
		}
		numbers[next] = numbers[c]
		open = append(open, next)
	}
	return open
}

func isFurrow(kind int) bool { return kind != api.Land }
