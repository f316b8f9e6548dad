package books

import (
	"slices"

	"millrind/api"
	"millrind/crossing"
	"millrind/dressing"
	"millrind/history"
	"millrind/truth"
	"millrind/wear"
)

// Check returns what is wrong with a book.
func Check(x api.Book) []api.Fault {
	steps := []func(api.Book) []api.Fault{baseFaults, rankFaults, worldFaults, toldFaults}
	if clashes(x) {
		steps = append(steps, clashFaults)
	} else {
		steps = append(steps, lineFaults, shiftFaults, leadFaults)
	}
	for _, find := range steps {
		if faults := find(x); len(faults) > 0 {
			return faults
		}
	}
	return nil
}

// unless returns a fault, unless all is right.
func unless(right bool, kind, index int) []api.Fault {
	if right {
		return nil
	}
	return []api.Fault{{Kind: kind, Index: index}}
}

func baseFaults(x api.Book) []api.Fault {
	right := history.CheckBase(x.Base) == api.OK && isTrouble(x.Trouble)
	for stone, side := range x.Sides {
		e, _ := wear.Check(side.Story)
		right = right && e == api.OK && slices.Equal(side.Story.Start, x.Base.Start[stone])
	}
	return unless(right, api.FaultBase, 0)
}

// isTrouble reports whether a book may have a trouble, or none.
func isTrouble(e api.Errno) bool {
	return e == api.OK || e == api.ErrClash || e == api.ErrReach || e == api.ErrStone || e == api.ErrBalance
}

func rankFaults(x api.Book) []api.Fault {
	if crossing.CheckRank(x.Base.Pair, x.Rank) != api.OK {
		return unless(false, api.FaultRank, 0)
	}
	least, _ := Cuts(x) // where there is no such number, Least is no table for any
	return unless(crossing.CheckLeast(x.Base.Pair, least, x.Least) == api.OK, api.FaultRank, 1)
}

func worldFaults(x api.Book) []api.Fault {
	var faults []api.Fault
	for stone, side := range x.Sides {
		right := !isLarge(side.Story)
		if len(side.Worlds) > 0 {
			right = right && len(side.Loops) == 0 && haveWorlds(side)
		} else {
			right = right && len(side.Told) == 0 && haveLoops(side)
		}
		faults = append(faults, unless(right, api.FaultWorld, stone)...)
	}
	return faults
}

// haveWorlds reports whether what a side has as worlds are some, in order, with heights.
func haveWorlds(side api.Side) bool {
	for i, w := range side.Worlds {
		if i > 0 && slices.Compare(side.Worlds[i-1].Hard, w.Hard) >= 0 {
			return false
		}
		for _, h := range [][][]int{w.Lowest, w.Highest} {
			if keep, e := wear.Keeps(side.Story, w.Hard, h); e != api.OK || !keep {
				return false
			}
		}
	}
	return true
}

// haveLoops reports whether a side that is not large has a loop of each world.
func haveLoops(side api.Side) bool {
	worlds, _ := wear.Worlds(side.Story)
	if len(side.Loops) != len(worlds) {
		return false
	}
	for i, x := range side.Loops {
		loop, e := wear.CheckLoop(side.Story, x.World, x.Path)
		if !slices.Equal(x.World, worlds[i]) || !x.Loop || e != api.OK || !loop {
			return false
		}
	}
	return true
}

func toldFaults(x api.Book) []api.Fault {
	var faults []api.Fault
	for stone, side := range x.Sides {
		cells := len(side.Story.Start)
		switch {
		case len(side.Worlds) == 0:
		case len(side.Told) != cells:
			faults = append(faults, api.Fault{Kind: api.FaultTold, Index: stone*cells + min(len(side.Told), cells)})
		default:
			for cell := range cells {
				faults = append(faults, unless(tells(side, cell), api.FaultTold, stone*cells+cell)...)
			}
		}
	}
	return faults
}

// tells reports whether a side with worlds proves what it tells of a cell.
func tells(side api.Side, cell int) bool {
	told, last := side.Told[cell], lastSlice(side.Story)
	if told.Cell != cell || !has(side.Worlds, told.LowIn) || !has(side.Worlds, told.HighIn) {
		return false
	}
	low, e := wear.CheckCases(side.Story, last, cell, false, told.Low)
	if e != api.OK || low != told.Height.Lo || low != side.Worlds[told.LowIn].Lowest[last][cell] {
		return false
	}
	high, e := wear.CheckCases(side.Story, last, cell, true, told.High)
	return e == api.OK && high == told.Height.Hi && high == side.Worlds[told.HighIn].Highest[last][cell]
}

func has(worlds []api.World, index int) bool { return index >= 0 && index < len(worlds) }

// clashFaults looks at a book that has a side without worlds: nothing can be done then.
func clashFaults(x api.Book) []api.Fault {
	idle := len(x.Lines) == 0 && isUnshared(x) && len(x.Weights) == 0 && len(x.Lead) == 0 && isZero(x.Tree)
	return unless(x.Trouble == api.ErrClash && idle, api.FaultLine, 0)
}

func isUnshared(x api.Book) bool { return x.Shifts == 0 && len(x.Work) == 0 && len(x.Cut) == 0 }

func isZero(t api.Tree) bool {
	return t.Kind == 0 && t.Pocket == 0 && t.At == 0 && t.Way == api.Point{} && len(t.Kids) == 0
}

func lineFaults(x api.Book) []api.Fault {
	rings := x.Base.Pair.Bed.Rings
	if x.Trouble == api.ErrClash {
		return unless(false, api.FaultLine, 0)
	}
	if len(x.Lines) != 2*rings {
		return unless(false, api.FaultLine, min(len(x.Lines), 2*rings))
	}
	var faults []api.Fault
	heights := heightsTold(x)
	for i, line := range x.Lines {
		stone, ring := i/rings, i%rings
		tasked := taskedLine(x.Base, heights[stone], stone, ring)
		faults = append(faults, unless(isRight(line, tasked), api.FaultLine, i)...)
	}
	return faults
}

func shiftFaults(x api.Book) []api.Fault {
	crew, loads := x.Base.Crew, loadsOf(x.Lines)
	if x.Trouble == api.ErrReach {
		_, e := dressing.Shifts(crew, loads)
		return unless(e == api.ErrReach && isUnshared(x), api.FaultShift, 0)
	}
	proved, e := dressing.CheckCut(crew, loads, x.Cut)
	right := e == api.OK && proved == x.Shifts && dressing.CheckWork(crew, loads, x.Shifts, x.Work) == api.OK
	return unless(right, api.FaultShift, 0)
}

func leadFaults(x api.Book) []api.Fault {
	right := slices.Equal(x.Weights, leastOf(heightsTold(x)[api.RunStone])) && hasLead(x)
	return unless(right, api.FaultLead, 0)
}

// hasLead reports whether a book has the least lead, or proves that there is none, or that there is no stone.
func hasLead(x api.Book) bool {
	may := func(e api.Errno) bool { return x.Trouble == e || x.Trouble == api.ErrReach }
	s, e := history.StoneOf(x.Base, x.Weights)
	if e != api.OK {
		return may(api.ErrStone) && len(x.Lead) == 0 && isZero(x.Tree)
	}
	proves := func(sum int) bool {
		e, _ := truth.CheckTree(s, sum, x.Tree)
		return e == api.OK
	}
	if is, e := truth.Balanced(s, x.Lead); e == api.OK && is && may(api.OK) && proves(sumOf(x.Lead)) {
		return true
	}
	return may(api.ErrBalance) && len(x.Lead) == 0 && proves(room(x.Base.Pockets)+1)
}

func sumOf(l []int) int {
	sum := 0
	for _, n := range l {
		sum += n
	}
	return sum
}

// room returns how much lead pockets hold together.
func room(pockets []api.Pocket) int {
	sum := 0
	for _, p := range pockets {
		sum += p.Most
	}
	return sum
}
