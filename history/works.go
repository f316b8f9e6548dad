package history

import (
	"slices"

	"millrind/api"
	"millrind/dressing"
	"millrind/truth"
)

// StoneOf returns the runner with some heights.
func StoneOf(b api.Base, heights []int) (api.Stone, api.Errno) {
	if e := CheckBase(b); e != api.OK {
		return api.Stone{}, e
	}
	s := stoneOf(b, heights)
	if truth.Check(s) != api.OK {
		return api.Stone{}, api.ErrArg
	}
	return s, api.OK
}

// MillOf returns the mill with some heights of both stones.
func MillOf(b api.Base, bed, runner []int) (api.Mill, api.Errno) {
	if e := CheckBase(b); e != api.OK {
		return api.Mill{}, e
	}
	gaps, e := truth.Closest(b.Pair.Bed, bed, runner, b.Lift)
	if e != api.OK {
		return api.Mill{}, e
	}
	for cell, gap := range gaps {
		gaps[cell] = max(0, min(gap, b.Top, api.MaxSize))
	}
	return api.Mill{Pair: pairOf(b), Gap: gaps}, api.OK
}

// TaskOf returns the task of a ring.
func TaskOf(b api.Base, heights []api.Span, stone, ring int) (api.Task, api.Errno) {
	f, e := FrameOf(b)
	if e != api.OK {
		return api.Task{}, e
	}
	if !areSpans(heights, f.Rings*f.Sectors, api.MaxHeight) || !frame(f).hasLine(stone, ring) {
		return api.Task{}, api.ErrArg
	}
	t := api.Task{Wide: b.Wide}
	for cell := ring * f.Sectors; cell < (ring+1)*f.Sectors; cell++ {
		need, e := dressing.Need(heights[cell], b.Aim[stone][cell], b.Deep)
		if e != api.OK {
			return api.Task{}, e
		}
		t.Need = append(t.Need, need)
	}
	return t, api.OK
}

// stoneOf returns a copy of the runner with copies of some heights, whether there is such a stone or not.
func stoneOf(b api.Base, heights []int) api.Stone {
	return api.Stone{
		Face:    faceOf(b.Pair.Runner),
		Heights: slices.Clone(heights),
		Compass: slices.Clone(b.Compass),
		Pockets: slices.Clone(b.Pockets),
		Tol:     b.Tol,
	}
}

// pairOf returns a copy of the pair of a base.
func pairOf(b api.Base) api.Pair {
	p := api.Pair{Bed: faceOf(b.Pair.Bed), Runner: faceOf(b.Pair.Runner)}
	for _, moves := range b.Pair.Drive {
		p.Drive = append(p.Drive, slices.Clone(moves))
	}
	return p
}

// faceOf returns a copy of a face.
func faceOf(f api.Face) api.Face {
	f.Kinds = slices.Clone(f.Kinds)
	return f
}
