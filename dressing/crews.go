package dressing

import (
	"slices"

	"millrind/api"
)

const maxLoad = api.MaxLine * api.MaxStrokes

// ValidCrew reports whether a crew is valid.
func ValidCrew(c api.Crew) bool {
	if len(c.Caps) > api.MaxDressers || len(c.Reach) != len(c.Caps) {
		return false
	}
	for i, n := range c.Caps {
		if n < 1 || n > api.MaxStrokes || !increase(c.Reach[i], api.MaxLines-1) {
			return false
		}
	}
	return true
}

// CheckWork returns OK if work can be done in so many shifts.
func CheckWork(c api.Crew, loads []int, shifts int, work [][]int) api.Errno {
	if e := checkCrew(c, loads); e != api.OK {
		return e
	}
	if shifts < 0 {
		return api.ErrArg
	}
	if !sharesOut(c, loads, work) {
		return api.ErrPlan
	}
	for i, row := range work {
		if shiftsFor(sums(row)[len(row)], c.Caps[i]) > shifts {
			return api.ErrPlan
		}
	}
	return api.OK
}

// CheckCut returns how many shifts lines prove.
func CheckCut(c api.Crew, loads, lines []int) (int, api.Errno) {
	if e := checkCrew(c, loads); e != api.OK {
		return 0, e
	}
	if !increase(lines, len(loads)-1) {
		return 0, api.ErrArg
	}
	load, made := together(c, loads, lines)
	if load > 0 && made == 0 {
		return 0, api.ErrReach
	}
	return shiftsFor(load, made), api.OK
}

// checkCrew returns the errors that all functions of crews and loads have in common.
func checkCrew(c api.Crew, loads []int) api.Errno {
	if !ValidCrew(c) {
		return api.ErrCrew
	}
	if len(loads) > api.MaxLines || !allWithin(loads, maxLoad) {
		return api.ErrArg
	}
	return api.OK
}

// increase reports whether numbers increase from 0 on, up to most.
func increase(l []int, most int) bool {
	last := -1
	for _, n := range l {
		if n <= last || n > most {
			return false
		}
		last = n
	}
	return true
}

// sharesOut reports whether work shares out just the loads among dressers that reach their lines.
func sharesOut(c api.Crew, loads []int, work [][]int) bool {
	if len(work) != len(c.Caps) {
		return false
	}
	left := slices.Clone(loads)
	for i, row := range work {
		if len(row) != len(loads) {
			return false
		}
		for line, n := range row {
			// Nothing may be more than what is left: so no sum wraps around, however great the numbers are.
			if n < 0 || n > left[line] || n > 0 && !slices.Contains(c.Reach[i], line) {
				return false
			}
			left[line] -= n
		}
	}
	return allWithin(left, 0)
}

// together returns the load of lines, and how many strokes all dressers who reach one of them make in a shift.
func together(c api.Crew, loads, lines []int) (load, made int) {
	for _, line := range lines {
		load += loads[line]
	}
	for i, reach := range c.Reach {
		if slices.ContainsFunc(lines, func(line int) bool { return slices.Contains(reach, line) }) {
			made += c.Caps[i]
		}
	}
	return load, made
}

// shiftsFor returns the least number of shifts for a load, if so many strokes are made in each.
func shiftsFor(load, made int) int {
	if load == 0 {
		return 0
	}
	return (load + made - 1) / made
}
