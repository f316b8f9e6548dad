package history

import "millrind/api"

// frame is the size of the stones that notes tell of.
type frame api.Frame

func (f frame) isValid() bool {
	return isFromTo(f.Rings, 1, api.MaxRings) && isFromTo(f.Sectors, 2, api.MaxSectors) && isFromTo(f.Wide, 1, f.Sectors)
}

func (f frame) hasCell(cell int) bool { return isFromTo(cell, 0, f.Rings*f.Sectors-1) }

func (f frame) hasLine(stone, ring int) bool {
	return isStone(stone) && isFromTo(ring, 0, f.Rings-1)
}

func isStone(stone int) bool { return stone == api.BedStone || stone == api.RunStone }

func isFromTo(n, least, most int) bool { return least <= n && n <= most }

// inOrder reports whether a span is one and lies between two numbers.
func inOrder(x api.Span, least, most int) bool {
	return least <= x.Lo && x.Lo <= x.Hi && x.Hi <= most
}
