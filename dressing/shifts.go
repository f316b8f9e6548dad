package dressing

import "millrind/api"

// roster is the fewest shifts for loads, work that can be done in them, and lines that need so many.
type roster struct {
	shifts int
	work   [][]int
	lines  []int
}

// Shifts returns the fewest shifts for the strokes of all lines.
func Shifts(c api.Crew, loads []int) (int, api.Errno) {
	r, e := rosterOf(c, loads)
	return r.shifts, e
}

// Work returns which dresser makes how many strokes on which line.
func Work(c api.Crew, loads []int) ([][]int, api.Errno) {
	r, e := rosterOf(c, loads)
	return r.work, e
}

// Cut returns lines that need so many shifts.
func Cut(c api.Crew, loads []int) ([]int, api.Errno) {
	r, e := rosterOf(c, loads)
	return r.lines, e
}

// Days returns the work of each shift.
func Days(c api.Crew, loads []int) ([][][]int, api.Errno) {
	r, e := rosterOf(c, loads)
	if e != api.OK {
		return nil, e
	}
	if r.shifts > api.MaxLine {
		return nil, api.ErrLimit
	}
	days := make([][][]int, r.shifts)
	for day := range days {
		for i, row := range r.work {
			days[day] = append(days[day], takeShift(row, c.Caps[i]))
		}
	}
	return days, api.OK
}

// takeShift takes the strokes of a shift away from what a dresser has to make, line by line.
func takeShift(row []int, most int) []int {
	shift := make([]int, len(row))
	for line, n := range row {
		shift[line] = min(n, most)
		row[line] -= shift[line]
		most -= shift[line]
	}
	return shift
}

// rosterOf tries no shifts at first. As long as loads are left, the lines at which the search is stuck need more shifts, and these are tried next.
func rosterOf(c api.Crew, loads []int) (roster, api.Errno) {
	if e := checkCrew(c, loads); e != api.OK {
		return roster{}, e
	}
	for line, who := range hands(c, len(loads)) {
		if loads[line] > 0 && len(who) == 0 {
			return roster{}, api.ErrReach
		}
	}
	r := roster{}
	for {
		s := share(c, loads, r.shifts)
		if len(s.stuck) == 0 {
			r.work = s.made
			return r, api.OK
		}
		r.lines = s.stuck
		r.shifts = shiftsFor(together(c, loads, r.lines))
	}
}
