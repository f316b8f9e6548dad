package dressing

import "millrind/api"

// none stands for the cell of an edge that no cell asks for, and for a point or an edge that there is not.
const none = -1

// edge says that the point to is at least more above the point from, because the span of a cell asks for it with its least or its greatest number.
type edge struct {
	from, to, more int
	cell           int
	high           bool
}

// bounds are what a task asks of the points of a plan. The point k of a plan is how many strokes have a first cell ahead of k, so a span bounds how far one point is above another.
type bounds struct{ list []edge }

// rise says that no point is below the one ahead of it.
func (b *bounds) rise(points int) {
	for k := 1; k < points; k++ {
		b.list = append(b.list, edge{from: k - 1, to: k, cell: none})
	}
}

// span says that one point is above another one by what a cell needs.
func (b *bounds) span(from, to, cell int, need api.Span) {
	b.list = append(b.list,
		edge{from: from, to: to, more: need.Lo, cell: cell},
		edge{from: to, to: from, more: -need.Hi, cell: cell, high: true})
}

// graph is bounds with the longest walks along them that are known: how high each point is at least above the point 0, and the edge by which the walk comes to it.
type graph struct {
	bounds
	least []int
	by    []int
}

func graphOf(t api.Task) *graph {
	points := firstCells(t) + 1
	g := &graph{least: make([]int, points), by: make([]int, points)}
	g.rise(points)
	for i, x := range t.Need {
		from, to := strokesOver(t, i)
		g.span(from, to, i, x)
	}
	for k := range g.by {
		g.by[k] = k - 1 // the edge of this index rises to k, so each point is reached at first; no edge leads to the point 0
	}
	return g
}

// lift makes walks longer by an edge where that is more, and returns the last point that was lifted.
func (g *graph) lift() int {
	last := none
	for i, x := range g.list {
		if n := g.least[x.from] + x.more; n > g.least[x.to] {
			g.least[x.to], g.by[x.to] = n, i
			last = x.to
		}
	}
	return last
}

// settle lifts points until none can be lifted, and returns none then. If some still can be after as many rounds as there are points, walks run around a loop; it returns a point of it.
func (g *graph) settle() int {
	at := none
	for range g.least {
		if at = g.lift(); at == none {
			return none
		}
	}
	for range g.least {
		at = g.last(at).from
	}
	return at
}

// last returns the edge by which the longest walk comes to a point.
func (g *graph) last(point int) edge { return g.list[g.by[point]] }

// pay walks back edge by edge from a point to another one, or around a loop to the same one, and returns prices that count for each cell how often its span was needed.
func pay(cells int, last func(point int) edge, from, to int) api.Prices {
	x := api.Prices{Low: make([]int, cells), High: make([]int, cells)}
	for at := from; ; {
		step := last(at)
		switch {
		case step.cell == none:
		case step.high:
			x.High[step.cell]++
		default:
			x.Low[step.cell]++
		}
		if at = step.from; at == to {
			return x
		}
	}
}
