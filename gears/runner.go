package gears

import "millrind/api"

// runner is the last shaft of a train: its turns for each tooth of the first driver, its play, and its sectors. Where it stands is counted in parts: so many of turns.Den are a turn.
type runner struct {
	turns, play api.Ratio
	sectors     int
}

// runnerOf returns the runner of a train for so many sectors, with the errors of what is asked of it.
func runnerOf(t api.Train, sectors, teeth int) (runner, api.Errno) {
	if !ValidTrain(t) {
		return runner{}, api.ErrTrain
	}
	if !isFromTo(sectors, 2, api.MaxSectors) || !isCount(teeth) {
		return runner{}, api.ErrArg
	}
	turns, e := turnsOf(t, len(t.Meshes))
	if e != api.OK {
		return runner{}, e
	}
	play, e := Play(t)
	if e != api.OK {
		return runner{}, e
	}
	return runner{turns, play, sectors}, api.OK
}

// foremost returns the number of sectors after so many parts without any lag.
func (r runner) foremost(parts int) int { return parts * r.sectors / r.turns.Den }

// hindmost returns the number of sectors after so many parts, if the runner lags by all its play. Whole sectors and rests are taken apart: over one denominator they would be too large.
func (r runner) hindmost(parts int) int {
	run, lag := parts*r.sectors, r.play.Num*r.sectors
	whole := run/r.turns.Den - lag/r.play.Den
	if (run%r.turns.Den)*r.play.Den < (lag%r.play.Den)*r.turns.Den {
		return whole - 1
	}
	return whole
}

// mayStandAt reports whether the runner may stand at a sector after some number of teeth. Up to whole turns it comes to all parts, since Num and Den of its turns have no common divisor; of those that are not short of the sector, the first one has to lag least to stand there.
func (r runner) mayStandAt(sector int) bool {
	parts := (sector*r.turns.Den + r.sectors - 1) / r.sectors
	return r.hindmost(parts) <= sector
}
