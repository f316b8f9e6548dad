package dressing

import "millrind/api"

// Fewest returns the fewest strokes that do a task.
func Fewest(t api.Task) (int, api.Errno) {
	g, e := possible(t)
	if e != api.OK {
		return 0, e
	}
	return g.least[firstCells(t)], api.OK
}

// Plan returns the first plan with the fewest strokes.
func Plan(t api.Task) ([]int, api.Errno) {
	g, e := possible(t)
	if e != api.OK {
		return nil, e
	}
	// All points can be as low as they are at least at once: so the last one is, and no plan comes before this one.
	plan := make([]int, firstCells(t))
	for k := range plan {
		plan[k] = g.least[k+1] - g.least[k]
	}
	return plan, api.OK
}

// possible returns the graph of a task that some plan does, with the longest walks.
func possible(t api.Task) (*graph, api.Errno) {
	if e := Check(t); e != api.OK {
		return nil, e
	}
	g := graphOf(t)
	if g.settle() != none {
		return nil, api.ErrStroke
	}
	return g, api.OK
}
