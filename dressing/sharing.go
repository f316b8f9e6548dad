package dressing

import (
	"slices"

	"millrind/api"
)

// sharing is work that is being sought: what each dresser makes on each line and could still make, and what is left of each load.
type sharing struct {
	hands [][]int // for each line the dressers who reach it
	made  [][]int
	spare []int
	left  []int
	stuck []int // in the end, if anything is left: the lines all of whose dressers have nothing to spare, and make strokes on no others
}

// share shares out as much of the loads as can be done in so many shifts.
func share(c api.Crew, loads []int, shifts int) *sharing {
	s := &sharing{hands: hands(c, len(loads)), left: slices.Clone(loads)}
	for _, n := range c.Caps {
		s.made = append(s.made, make([]int, len(loads)))
		s.spare = append(s.spare, n*shifts)
	}
	far := s.measure()
	for far.spare {
		s.place(far)
		far = s.measure()
	}
	for line, n := range far.lines {
		if n != none {
			s.stuck = append(s.stuck, line)
		}
	}
	return s
}

// hands returns the dressers who reach each line.
func hands(c api.Crew, lines int) [][]int {
	l := make([][]int, lines)
	for i, reach := range c.Reach {
		for _, line := range reach {
			if line < lines {
				l[line] = append(l[line], i)
			}
		}
	}
	return l
}

// distances are how far lines and dressers are from a load that is not shared out: from a line to all who reach it, and from a dresser to the lines that could be taken away from them. none is out of reach.
type distances struct {
	lines, dressers []int
	spare           bool // whether any dresser in reach has strokes to spare
}

func (s *sharing) measure() distances {
	far := distances{lines: slices.Repeat([]int{none}, len(s.left)), dressers: slices.Repeat([]int{none}, len(s.spare))}
	var queue []int
	for line, n := range s.left {
		if n > 0 {
			far.lines[line] = 0
			queue = append(queue, line)
		}
	}
	for at := 0; at < len(queue); at++ {
		line := queue[at]
		for _, i := range s.hands[line] {
			if far.dressers[i] != none {
				continue
			}
			far.dressers[i] = far.lines[line] + 1
			far.spare = far.spare || s.spare[i] > 0
			for other, n := range s.made[i] {
				if n > 0 && far.lines[other] == none {
					far.lines[other] = far.dressers[i] + 1
					queue = append(queue, other)
				}
			}
		}
	}
	return far
}

// place shares out what is left of loads: to dressers with strokes to spare, or by seeking others for strokes on lines that are farther by one step. A line for which no more can be found is put out of reach, so that it is not asked again.
func (s *sharing) place(far distances) {
	var seek func(line, strokes int) int
	seek = func(line, strokes int) int {
		wanted := strokes
		for _, i := range s.hands[line] {
			if far.dressers[i] != far.lines[line]+1 {
				continue
			}
			n := min(wanted, s.spare[i])
			s.spare[i] -= n
			s.made[i][line] += n
			wanted -= n
			for other, most := range s.made[i] {
				if wanted > 0 && most > 0 && far.lines[other] == far.dressers[i]+1 {
					taken := seek(other, min(wanted, most))
					s.made[i][other] -= taken
					s.made[i][line] += taken
					wanted -= taken
				}
			}
			if wanted == 0 {
				return strokes
			}
		}
		far.lines[line] = none
		return strokes - wanted
	}
	for line, n := range s.left {
		if n > 0 {
			done := seek(line, n)
			s.left[line] -= done
		}
	}
}
