package books

import (
	"slices"

	"millrind/api"
	"millrind/dressing"
)

// noCell stands for the cell of a line of which all heights are known well enough.
const noCell = -1

// linesOf returns the lines of both stones with their tasks, from the heights of all cells.
func linesOf(b api.Base, heights [2][]api.Span) []api.Line {
	var lines []api.Line
	for stone := range heights {
		for ring := range b.Pair.Bed.Rings {
			line := taskedLine(b, heights[stone], stone, ring)
			if line.State != api.LineVague {
				line.State = stateOf(line.Task)
			}
			lines = append(lines, line)
		}
	}
	return lines
}

// taskedLine returns a vague line, or one with a task, but without a state.
func taskedLine(b api.Base, heights []api.Span, stone, ring int) api.Line {
	line := api.Line{Stone: stone, Ring: ring, Cell: noCell, Task: api.Task{Wide: b.Wide}}
	sectors := b.Pair.Bed.Sectors
	for cell := ring * sectors; cell < (ring+1)*sectors; cell++ {
		need, e := dressing.Need(heights[cell], b.Aim[stone][cell], b.Deep)
		if e != api.OK {
			return api.Line{Stone: stone, Ring: ring, State: api.LineVague, Cell: cell}
		}
		line.Task.Need = append(line.Task.Need, need)
	}
	return line
}

func stateOf(t api.Task) int {
	if _, e := dressing.Fewest(t); e != api.OK {
		return api.LineNever
	}
	return api.LineWork
}

// planned returns a line with its plan and its prices.
func planned(line api.Line) api.Line {
	switch line.State {
	case api.LineWork:
		line.Plan, _ = dressing.Plan(line.Task)
		line.Prices, _, _ = dressing.Prove(line.Task)
	case api.LineNever:
		line.Prices, _ = dressing.Never(line.Task)
	}
	return line
}

// isRight reports whether a line is one for what taskedLine returned.
func isRight(line, tasked api.Line) bool {
	if line.Stone != tasked.Stone || line.Ring != tasked.Ring || line.Cell != tasked.Cell || !areSame(line.Task, tasked.Task) {
		return false
	}
	switch isVague := tasked.State == api.LineVague; line.State {
	case api.LineVague:
		return isVague && len(line.Plan) == 0 && len(line.Prices.Low) == 0 && len(line.Prices.High) == 0
	case api.LineWork:
		return !isVague && isFewest(line)
	case api.LineNever:
		return !isVague && len(line.Plan) == 0 && dressing.CheckNever(line.Task, line.Prices) == api.OK
	}
	return false
}

// isFewest reports whether the plan of a line does its task, with as many strokes as the prices prove.
func isFewest(line api.Line) bool {
	if dressing.Does(line.Task, line.Plan) != api.OK {
		return false
	}
	strokes, _ := dressing.Total(line.Plan)
	proved, e := dressing.CheckPrices(line.Task, line.Prices)
	return e == api.OK && proved == strokes
}

func areSame(a, b api.Task) bool { return a.Wide == b.Wide && slices.Equal(a.Need, b.Need) }
