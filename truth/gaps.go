package truth

import (
	"iter"
	"slices"

	"millrind/api"
	"millrind/stones"
)

// pairing is the heights of two stones that lie face to face.
type pairing struct {
	face        api.Face
	bed, runner []int
}

// pairingOf returns the pairing of two lists of heights; ErrFace or ErrArg, if the face or a list is not valid.
func pairingOf(f api.Face, bed, runner []int) (pairing, api.Errno) {
	if !stones.Valid(f) {
		return pairing{}, api.ErrFace
	}
	if !areHeights(f, bed) || !areHeights(f, runner) {
		return pairing{}, api.ErrArg
	}
	return pairing{f, bed, runner}, api.OK
}

// liftedOf returns the pairing for a lift; ErrArg, also if there is no such lift.
func liftedOf(f api.Face, bed, runner []int, lift int) (pairing, api.Errno) {
	p, e := pairingOf(f, bed, runner)
	if e == api.OK && !isFromTo(lift, 0, api.MaxHeight) {
		return pairing{}, api.ErrArg
	}
	return p, e
}

// Gaps returns how far both stones are apart at a turn.
func Gaps(f api.Face, bed, runner []int, lift, turn int) ([]int, api.Errno) {
	p, e := liftedOf(f, bed, runner, lift)
	if e != api.OK {
		return nil, e
	}
	if !isFromTo(turn, 0, f.Sectors-1) {
		return nil, api.ErrArg
	}
	gaps := make([]int, len(bed))
	for cell := range gaps {
		gaps[cell] = p.gap(cell, turn, lift)
	}
	return gaps, api.OK
}

// Closest returns the least gap above each cell of the bed.
func Closest(f api.Face, bed, runner []int, lift int) ([]int, api.Errno) {
	p, e := liftedOf(f, bed, runner, lift)
	if e != api.OK {
		return nil, e
	}
	return p.closest(lift), api.OK
}

// Rubs returns the cells of the bed that the runner rubs.
func Rubs(f api.Face, bed, runner []int, lift int) ([]int, api.Errno) {
	p, e := liftedOf(f, bed, runner, lift)
	if e != api.OK {
		return nil, e
	}
	var cells []int
	for cell, gap := range p.closest(lift) {
		if gap < 1 {
			cells = append(cells, cell)
		}
	}
	return cells, api.OK
}

// Lift returns the least lift with which all gaps are so wide.
func Lift(f api.Face, bed, runner []int, least int) (int, api.Errno) {
	p, e := pairingOf(f, bed, runner)
	if e != api.OK {
		return 0, e
	}
	if !isFromTo(least, -api.MaxHeight, api.MaxHeight) {
		return 0, api.ErrArg
	}
	return max(0, least-slices.Min(p.closest(0))), api.OK
}

// gap returns how far a cell of the bed is from the runner's cell above it.
func (p pairing) gap(cell, turn, lift int) int {
	sectors := p.face.Sectors
	sector := cell % sectors
	above := cell - sector + (sector-turn+sectors)%sectors
	return lift - p.bed[cell] - p.runner[above]
}

func (p pairing) closest(lift int) []int {
	gaps := make([]int, len(p.bed))
	for cell := range gaps {
		gap := func(turn int) int { return p.gap(cell, turn, lift) }
		turn, _ := least(upTo(p.face.Sectors), gap)
		gaps[cell] = gap(turn)
	}
	return gaps
}

// upTo yields the numbers from 0 to the one ahead of n.
func upTo(n int) iter.Seq[int] {
	return func(yield func(int) bool) {
		for i := range n {
			if !yield(i) {
				return
			}
		}
	}
}
