// Package stones is layer 1: the faces of millstones, as cells, areas, regions, turns, patterns and texts (doc/01-stones.md).
package stones

import (
	"slices"

	"millrind/api"
)

// Valid reports whether a face is valid.
func Valid(f api.Face) bool {
	if !sizesFit(f) || len(f.Kinds) != f.Rings*f.Sectors {
		return false
	}
	for _, kind := range f.Kinds {
		if !isKind(kind) {
			return false
		}
	}
	return true
}

// Same reports whether two faces, valid or not, are equal in all fields.
func Same(f, g api.Face) bool {
	return f.Eye == g.Eye && f.Rings == g.Rings && f.Sectors == g.Sectors && slices.Equal(f.Kinds, g.Kinds)
}

// At returns the kind of a cell.
func At(f api.Face, c api.Cell) (int, api.Errno) {
	if e := checkCell(f, c); e != api.OK {
		return 0, e
	}
	return kindAt(f, c), api.OK
}

// Set returns the face in which a cell has another kind.
func Set(f api.Face, c api.Cell, kind int) (api.Face, api.Errno) {
	if e := checkCell(f, c); e != api.OK {
		return api.Face{}, e
	}
	if !isKind(kind) {
		return api.Face{}, api.ErrArg
	}
	g := f
	g.Kinds = slices.Clone(f.Kinds)
	g.Kinds[indexOf(f, c)] = kind
	return g, api.OK
}

// Index returns the index of a cell.
func Index(f api.Face, c api.Cell) (int, api.Errno) {
	if e := checkCell(f, c); e != api.OK {
		return 0, e
	}
	return indexOf(f, c), api.OK
}

// CellOf returns the cell with an index.
func CellOf(f api.Face, i int) (api.Cell, api.Errno) {
	if !Valid(f) {
		return api.Cell{}, api.ErrFace
	}
	if i < 0 || i >= len(f.Kinds) {
		return api.Cell{}, api.ErrNone
	}
	return cellAt(f, i), api.OK
}

// Cells returns the cells of a kind, in increasing order of their indices.
func Cells(f api.Face, kind int) ([]api.Cell, api.Errno) {
	if e := checkKind(f, kind); e != api.OK {
		return nil, e
	}
	var cells []api.Cell
	for i, k := range f.Kinds {
		if k == kind {
			cells = append(cells, cellAt(f, i))
		}
	}
	return cells, api.OK
}

// Weight returns the area of each cell of a ring.
func Weight(f api.Face, ring int) (int, api.Errno) {
	if !Valid(f) {
		return 0, api.ErrFace
	}
	if ring < 0 || ring >= f.Rings {
		return 0, api.ErrNone
	}
	return weight(f, ring), api.OK
}

// Area returns the area of all cells of a kind.
func Area(f api.Face, kind int) (int, api.Errno) {
	if e := checkKind(f, kind); e != api.OK {
		return 0, e
	}
	area := 0
	for i, k := range f.Kinds {
		if k == kind {
			area += weight(f, i/f.Sectors)
		}
	}
	return area, api.OK
}

// checkCell returns what is wrong with a face and a cell of it first.
func checkCell(f api.Face, c api.Cell) api.Errno {
	switch {
	case !Valid(f):
		return api.ErrFace
	case c.Ring < 0 || c.Ring >= f.Rings || c.Sector < 0 || c.Sector >= f.Sectors:
		return api.ErrNone
	}
	return api.OK
}

// checkKind returns what is wrong with a face and a kind first.
func checkKind(f api.Face, kind int) api.Errno {
	switch {
	case !Valid(f):
		return api.ErrFace
	case !isKind(kind):
		return api.ErrArg
	}
	return api.OK
}

// sizesFit reports whether the numbers of a face are within the limits, whatever its kinds are.
func sizesFit(f api.Face) bool {
	return within(f.Eye, 1, api.MaxEye) && within(f.Rings, 1, api.MaxRings) && within(f.Sectors, 2, api.MaxSectors)
}

func within(n, least, most int) bool { return n >= least && n <= most }

func isKind(kind int) bool { return within(kind, 0, api.Kinds-1) }

func indexOf(f api.Face, c api.Cell) int { return c.Ring*f.Sectors + c.Sector }

func cellAt(f api.Face, i int) api.Cell {
	return api.Cell{Ring: i / f.Sectors, Sector: i % f.Sectors}
}

func kindAt(f api.Face, c api.Cell) int { return f.Kinds[indexOf(f, c)] }

func weight(f api.Face, ring int) int { return 2*(f.Eye+ring) + 1 }

// round returns the sector at which one comes out who goes round a face from sector 0.
func round(sector, sectors int) int {
	return (sector%sectors + sectors) % sectors
}
