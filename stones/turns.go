package stones

import (
	"slices"

	"millrind/api"
)

// Turn returns the face turned by some sectors.
func Turn(f api.Face, by int) (api.Face, api.Errno) {
	if !Valid(f) {
		return api.Face{}, api.ErrFace
	}
	return turned(f, by), api.OK
}

// Mirror returns the face as it is seen from below.
func Mirror(f api.Face) (api.Face, api.Errno) {
	if !Valid(f) {
		return api.Face{}, api.ErrFace
	}
	return redrawn(f, f.Sectors, func(sector int) int { return f.Sectors - 1 - sector }), api.OK
}

// Normal returns the one of all turns of a face that has the least kinds.
func Normal(f api.Face) (api.Face, api.Errno) {
	if !Valid(f) {
		return api.Face{}, api.ErrFace
	}
	least := turned(f, 0)
	for by := 1; by < f.Sectors; by++ {
		if g := turned(f, by); slices.Compare(g.Kinds, least.Kinds) < 0 {
			least = g
		}
	}
	return least, api.OK
}

// Turns returns by how many sectors the one face may be turned to be the other one.
func Turns(f, g api.Face) ([]int, api.Errno) {
	if !Valid(f) || !Valid(g) {
		return nil, api.ErrFace
	}
	var turns []int
	for by := range f.Sectors {
		if Same(turned(f, by), g) {
			turns = append(turns, by)
		}
	}
	return turns, api.OK
}

// Period returns the least turn that changes nothing.
func Period(f api.Face) (int, api.Errno) {
	if !Valid(f) {
		return 0, api.ErrFace
	}
	return period(f), api.OK
}

// Harp returns the face that has only the sectors that repeat.
func Harp(f api.Face) (api.Face, api.Errno) {
	if !Valid(f) {
		return api.Face{}, api.ErrFace
	}
	// A face of one sector would not be valid.
	sectors := max(period(f), 2)
	return redrawn(f, sectors, func(sector int) int { return sector }), api.OK
}

func turned(f api.Face, by int) api.Face {
	back := round(by, f.Sectors)
	return redrawn(f, f.Sectors, func(sector int) int { return round(sector-back, f.Sectors) })
}

func period(f api.Face) int {
	by := 1
	for by < f.Sectors && !Same(turned(f, by), f) {
		by++
	}
	return by
}

// redrawn returns a face with so many sectors, each of which is the sector of f that from tells.
func redrawn(f api.Face, sectors int, from func(sector int) int) api.Face {
	g := api.Face{Eye: f.Eye, Rings: f.Rings, Sectors: sectors}
	for ring := range f.Rings {
		for sector := range sectors {
			g.Kinds = append(g.Kinds, kindAt(f, api.Cell{Ring: ring, Sector: from(sector)}))
		}
	}
	return g
}
