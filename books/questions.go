package books

import (
	"math"
	"slices"

	"millrind/api"
	"millrind/crossing"
	"millrind/dressing"
)

// Height returns what a book tells of a cell.
func Height(x api.Book, stone, cell int) (api.Span, api.Errno) {
	if !isStone(stone) {
		return api.Span{}, api.ErrArg
	}
	for _, told := range x.Sides[stone].Told {
		if told.Cell == cell {
			return told.Height, api.OK
		}
	}
	return api.Span{}, api.ErrNone
}

// PlanOf returns the plan of a ring.
func PlanOf(x api.Book, stone, ring int) ([]int, api.Errno) {
	if !isStone(stone) {
		return nil, api.ErrArg
	}
	for _, line := range x.Lines {
		if line.Stone == stone && line.Ring == ring && line.State == api.LineWork {
			return slices.Clone(line.Plan), api.OK
		}
	}
	return nil, api.ErrNone
}

// WorkOf returns what a dresser makes.
func WorkOf(x api.Book, dresser int) ([]int, api.Errno) {
	if dresser < 0 || dresser >= len(x.Work) {
		return nil, api.ErrNone
	}
	return slices.Clone(x.Work[dresser]), api.OK
}

// Behind returns the bounds of the heights of a stone when the book's work is done.
func Behind(x api.Book, stone int) ([]api.Span, api.Errno) {
	if !isStone(stone) {
		return nil, api.ErrArg
	}
	strokes, e := strokesOver(x, stone)
	if e != api.OK {
		return nil, e
	}
	var heights []api.Span
	for i, told := range x.Sides[stone].Told {
		h, e := dressing.Falls(told.Height, x.Base.Deep, strokes[i])
		if e != api.OK {
			return nil, e
		}
		heights = append(heights, h)
	}
	return heights, api.OK
}

// strokesOver returns how many strokes the plans have over the cell of each Told of a stone.
func strokesOver(x api.Book, stone int) ([]int, api.Errno) {
	told, sectors := x.Sides[stone].Told, x.Base.Pair.Bed.Sectors
	if sectors <= 0 || slices.ContainsFunc(told, func(t api.Told) bool { return t.Cell < 0 }) {
		return nil, api.ErrBook
	}
	rings := map[int]bool{}
	for _, t := range told {
		rings[t.Cell/sectors] = true
	}
	covers, e := coversOf(x.Lines, stone, rings)
	if e != api.OK {
		return nil, e
	}
	strokes := make([]int, len(told))
	for i, t := range told {
		ring, is := covers[t.Cell/sectors]
		sector := t.Cell % sectors
		if is && sector >= len(ring) {
			return nil, api.ErrBook
		}
		if is {
			strokes[i] = ring[sector]
		}
	}
	return strokes, api.OK
}

// coversOf returns how many strokes cover the cells of each of some rings for which there are plans, as far as all of these plans go.
func coversOf(lines []api.Line, stone int, rings map[int]bool) (map[int][]int, api.Errno) {
	covers := map[int][]int{}
	for _, line := range lines {
		if line.State != api.LineWork || line.Stone != stone || !rings[line.Ring] {
			continue
		}
		l, e := dressing.Covers(line.Task, line.Plan)
		if e != api.OK {
			return nil, api.ErrBook
		}
		if others, is := covers[line.Ring]; is {
			l = together(l, others)
		}
		covers[line.Ring] = l
	}
	return covers, api.OK
}

// together adds two lists up, as far as both go.
func together(a, b []int) []int {
	l := make([]int, min(len(a), len(b)))
	for i := range l {
		l[i] = a[i] + b[i]
	}
	return l
}

// Strokes returns the notes that say that the book's work was done.
func Strokes(x api.Book) ([]api.Note, api.Errno) {
	var work []api.Line
	for _, line := range x.Lines {
		if line.State == api.LineWork {
			work = append(work, line)
		}
	}
	for _, line := range work {
		if slices.ContainsFunc(line.Plan, func(n int) bool { return n < 0 }) {
			return nil, api.ErrBook
		}
	}
	var notes []api.Note
	for _, line := range work {
		strokes := firstCells(line.Plan)
		if len(strokes) > api.MaxList {
			return nil, api.ErrLimit
		}
		if len(strokes) > 0 {
			notes = append(notes, api.Note{Kind: api.NoteStrokes, Stone: line.Stone, Ring: line.Ring, Strokes: strokes})
		}
	}
	return notes, api.OK
}

// firstCells returns the first cell of each stroke of a plan, up to one more than a note may have.
func firstCells(plan []int) []int {
	var l []int
	for cell, n := range plan {
		for range min(n, api.MaxList+1-len(l)) {
			l = append(l, cell)
		}
	}
	return l
}

// Cuts returns how often each grain is cut at least.
func Cuts(x api.Book) (int, api.Errno) {
	pair := x.Base.Pair
	states, e := crossing.States(pair)
	if e != api.OK || len(x.Least) != states {
		return 0, api.ErrBook
	}
	entries, _ := crossing.Entries(pair)
	least := math.MaxInt
	for _, s := range entries {
		at, _ := crossing.Number(pair, s)
		least = min(least, x.Least[at])
	}
	if least < 0 {
		return 0, api.ErrBook
	}
	return least, api.OK
}
