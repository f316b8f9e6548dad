package wear_test

import (
	"iter"
	"math"
	"slices"

	"millrind/api"
)

// model is what the chapter's words say of a world: all of its bounds, and for each two places how much higher the second one is at most, found by going through all places between.
type model struct {
	world  []int
	bounds []api.Bound
	index  map[[2]int]int
	most   [][]int
	lives  bool
}

const unbound = math.MaxInt / 4

func worldsOf(s api.Story) [][]int {
	l := [][]int{nil}
	for _, x := range s.Heaps {
		var longer [][]int
		for _, w := range l {
			for n := x.Lo; n <= x.Hi; n++ {
				longer = append(longer, append(slices.Clone(w), n))
			}
		}
		l = longer
	}
	return l
}

// boundsOf writes the bounds of a world as the chapter lists them.
func boundsOf(s api.Story, world []int) []api.Bound {
	var l []api.Bound
	for c, x := range s.Start {
		l = append(l, api.Bound{From: -1, To: c, Most: x.Hi, Kind: 1, ID: c})
		l = append(l, api.Bound{From: c, To: -1, Most: -x.Lo, Kind: 1, ID: c})
	}
	for i := range s.Steps {
		for c := range s.Start {
			x := losses(s, world, i, c)
			l = append(l, api.Bound{From: c, FromAt: i, To: c, ToAt: i + 1, Most: -x.Lo, Kind: 2, ID: i})
			l = append(l, api.Bound{From: c, FromAt: i + 1, To: c, ToAt: i, Most: x.Hi, Kind: 2, ID: i})
		}
	}
	for k, x := range s.Readings {
		low := [2]int{x.B, x.Slice}
		if x.B == -1 {
			low[1] = 0
		}
		l = append(l, api.Bound{From: low[0], FromAt: low[1], To: x.A, ToAt: x.Slice, Most: x.Diff.Hi, Kind: 3, ID: k})
		l = append(l, api.Bound{From: x.A, FromAt: x.Slice, To: low[0], ToAt: low[1], Most: -x.Diff.Lo, Kind: 3, ID: k})
	}
	return l
}

// losses is what a step takes from a cell.
func losses(s api.Story, world []int, step, cell int) api.Span {
	x := s.Steps[step]
	if x.Kind == api.StepPass {
		n := x.Times[cell] * world[x.Heap]
		return api.Span{Lo: n, Hi: n}
	}
	return api.Span{Lo: x.Times[cell] * x.Deep.Lo, Hi: x.Times[cell] * x.Deep.Hi}
}

func modelOf(s api.Story, world []int) model {
	m := model{world: world, bounds: boundsOf(s, world), index: map[[2]int]int{{-1, 0}: 0}}
	for slice := range len(s.Steps) + 1 {
		for c := range s.Start {
			m.index[[2]int{c, slice}] = len(m.index)
		}
	}
	n := len(m.index)
	for i := range n {
		m.most = append(m.most, slices.Repeat([]int{unbound}, n))
		m.most[i][i] = 0
	}
	for _, b := range m.bounds {
		from, to := m.index[[2]int{b.From, b.FromAt}], m.index[[2]int{b.To, b.ToAt}]
		m.most[from][to] = min(m.most[from][to], b.Most)
	}
	for k := range n {
		for i := range n {
			for j := range n {
				if m.most[i][k] < unbound && m.most[k][j] < unbound {
					m.most[i][j] = min(m.most[i][j], m.most[i][k]+m.most[k][j])
				}
			}
		}
	}
	m.lives = true
	for i := range n {
		m.lives = m.lives && m.most[i][i] >= 0
	}
	return m
}

func livingOf(s api.Story) []model {
	var l []model
	for _, w := range worldsOf(s) {
		if m := modelOf(s, w); m.lives {
			l = append(l, m)
		}
	}
	return l
}

// relation is how much higher the place p may be than q.
func (m model) relation(p, q [2]int) api.Span {
	i, j := m.index[p], m.index[q]
	return api.Span{Lo: -m.most[i][j], Hi: m.most[j][i]}
}

func (m model) span(slice, cell int) api.Span {
	return m.relation([2]int{cell, slice}, [2]int{-1, 0})
}

func (m model) spans(s api.Story, slice int) []api.Span {
	var l []api.Span
	for c := range s.Start {
		l = append(l, m.span(slice, c))
	}
	return l
}

// rows are an end of the span of each cell at each slice.
func (m model) rows(s api.Story, high bool) [][]int {
	var h [][]int
	for slice := range len(s.Steps) + 1 {
		var row []int
		for c := range s.Start {
			row = append(row, endOf(m.span(slice, c), high))
		}
		h = append(h, row)
	}
	return h
}

// hull is the span from the least to the greatest end of spans.
func hull(l []model, f func(model) api.Span) api.Span {
	x := f(l[0])
	for _, m := range l {
		y := f(m)
		x = api.Span{Lo: min(x.Lo, y.Lo), Hi: max(x.Hi, y.Hi)}
	}
	return x
}

// everyHeights goes through all heights that keep all bounds of a world of a small story, by trying all heights at first and all losses.
func everyHeights(s api.Story, world []int) iter.Seq[[][]int] {
	return func(yield func([][]int) bool) {
		h := make([][]int, len(s.Steps)+1)
		for i := range h {
			h[i] = make([]int, len(s.Start))
		}
		bounds := boundsOf(s, world)
		var fill func(n int) bool
		fill = func(n int) bool {
			slice, c := n/len(s.Start), n%len(s.Start)
			if slice > len(s.Steps) {
				return !keepsAll(bounds, h) || yield(h)
			}
			x := s.Start[c]
			if slice > 0 {
				loss := losses(s, world, slice-1, c)
				x = api.Span{Lo: h[slice-1][c] - loss.Hi, Hi: h[slice-1][c] - loss.Lo}
			}
			for h[slice][c] = x.Lo; h[slice][c] <= x.Hi; h[slice][c]++ {
				if !fill(n + 1) {
					return false
				}
			}
			return true
		}
		fill(0)
	}
}

func keepsAll(bounds []api.Bound, h [][]int) bool {
	at := func(cell, slice int) int {
		if cell == -1 {
			return 0
		}
		return h[slice][cell]
	}
	for _, b := range bounds {
		if at(b.To, b.ToAt) > at(b.From, b.FromAt)+b.Most {
			return false
		}
	}
	return true
}
