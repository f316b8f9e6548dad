package dressing_test

import (
	"slices"

	"millrind/api"
)

// modelCovers counts the strokes over each cell one by one.
func modelCovers(wide, cells int, plan []int) []int {
	l := make([]int, cells)
	for k, n := range plan {
		for i := k; i < k+wide; i++ {
			l[i] += n
		}
	}
	return l
}

func modelDoes(t api.Task, plan []int) bool {
	for i, n := range modelCovers(t.Wide, len(t.Need), plan) {
		if n < t.Need[i].Lo || n > t.Need[i].Hi {
			return false
		}
	}
	return true
}

// plansOf goes through all plans of a task, in order, and returns those that do it.
func plansOf(t api.Task) [][]int {
	var l [][]int
	plan := make([]int, len(t.Need)-t.Wide+1)
	most := 0
	for _, x := range t.Need {
		most = max(most, x.Hi)
	}
	var choose func(k int)
	choose = func(k int) {
		if k == len(plan) {
			if modelDoes(t, plan) {
				l = append(l, slices.Clone(plan))
			}
			return
		}
		for plan[k] = 0; plan[k] <= min(most, t.Need[k].Hi); plan[k]++ {
			choose(k + 1)
		}
	}
	choose(0)
	return l
}

func total(plan []int) int {
	n := 0
	for _, x := range plan {
		n += x
	}
	return n
}

// firstFewest returns the first one of the plans with the fewest strokes.
func firstFewest(plans [][]int) []int {
	best := plans[0]
	for _, p := range plans {
		if total(p) < total(best) {
			best = p
		}
	}
	return best
}

// modelPrices says, in the chapter's words, whether prices are such of a task, the greatest gain and the value.
func modelPrices(t api.Task, x api.Prices) (is bool, gain, value int) {
	n := len(t.Need)
	if len(x.Low) != n || len(x.High) != n {
		return false, 0, 0
	}
	for i := range n {
		if min(x.Low[i], x.High[i]) < 0 || max(x.Low[i], x.High[i]) > 100000 {
			return false, 0, 0
		}
		value += t.Need[i].Lo*x.Low[i] - t.Need[i].Hi*x.High[i]
	}
	for k := 0; k+t.Wide <= n; k++ {
		sum := total(x.Low[k:k+t.Wide]) - total(x.High[k:k+t.Wide])
		if k == 0 || sum > gain {
			gain = sum
		}
	}
	return true, gain, value
}

// modelWork says, in the chapter's words, whether work can be done in so many shifts.
func modelWork(c api.Crew, loads []int, shifts int, work [][]int) bool {
	if len(work) != len(c.Caps) {
		return false
	}
	lines := make([]int, len(loads))
	for i, row := range work {
		if len(row) != len(loads) || total(row) > shifts*c.Caps[i] {
			return false
		}
		for k, n := range row {
			if n < 0 || n > 0 && !slices.Contains(c.Reach[i], k) {
				return false
			}
			lines[k] += n
		}
	}
	return slices.Equal(lines, loads)
}

// modelCut says how many shifts lines need: the least number for which those who reach one of them make enough strokes, or false if no number does.
func modelCut(c api.Crew, loads, lines []int) (int, bool) {
	load, made := 0, 0
	for _, k := range lines {
		load += loads[k]
	}
	for i := range c.Caps {
		for _, k := range lines {
			if slices.Contains(c.Reach[i], k) {
				made += c.Caps[i]
				break
			}
		}
	}
	if load > 0 && made == 0 {
		return 0, false
	}
	shifts := 0
	for shifts*made < load {
		shifts++
	}
	return shifts, true
}

// subsets are all lists of some of the numbers below n, in order.
func subsets(n int) [][]int {
	l := [][]int{nil}
	for k := range n {
		for _, x := range slices.Clone(l) {
			l = append(l, append(slices.Clone(x), k))
		}
	}
	return l
}

// modelShifts goes through all numbers of shifts and all work, and returns the fewest shifts; false if a load cannot be done at all.
func modelShifts(c api.Crew, loads []int) (int, bool) {
	for k, n := range loads {
		if n > 0 && !slices.ContainsFunc(c.Reach, func(l []int) bool { return slices.Contains(l, k) }) {
			return 0, false
		}
	}
	for shifts := 0; ; shifts++ {
		room := make([]int, len(c.Caps))
		for i, n := range c.Caps {
			room[i] = n * shifts
		}
		if canShare(c, loads, room, 0, slices.Clone(loads)) {
			return shifts, true
		}
	}
}

// canShare tries to give the strokes of a line and of those behind it away one by one, if dressers have that much room.
func canShare(c api.Crew, loads, room []int, line int, left []int) bool {
	for line < len(loads) && left[line] == 0 {
		line++
	}
	if line == len(loads) {
		return true
	}
	for i := range c.Caps {
		if room[i] == 0 || !slices.Contains(c.Reach[i], line) {
			continue
		}
		room[i]--
		left[line]--
		done := canShare(c, loads, room, line, left)
		room[i]++
		left[line]++
		if done {
			return true
		}
	}
	return false
}
