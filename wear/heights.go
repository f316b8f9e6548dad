package wear

import "millrind/api"

// Heights returns the bounds of all heights over all worlds that close.
func Heights(s api.Story, slice int) ([]api.Span, api.Errno) {
	views, e := openStory(s)
	if e != api.OK {
		return nil, e
	}
	if !isSlice(s, slice) {
		return nil, api.ErrArg
	}
	var spans []api.Span
	c := chartOfSlice(s, slice)
	for v, up := range c.living(views) {
		spans = join(spans, c.spans(v, up, slice))
	}
	if len(spans) == 0 {
		return nil, api.ErrClash
	}
	return spans, api.OK
}

// Height returns the bounds of a height.
func Height(s api.Story, slice, cell int) (api.Span, api.Errno) {
	views, e := openStory(s)
	if e != api.OK {
		return api.Span{}, e
	}
	if !isSlice(s, slice) || !isCell(s, cell) {
		return api.Span{}, api.ErrArg
	}
	var spans []api.Span
	p := place{cell, slice}
	c := chartOf(s, p)
	for _, up := range c.living(views) {
		spans = join(spans, []api.Span{c.span(up, c.downFrom(up), p)})
	}
	return onlyOne(spans)
}

// Relation returns by how much a cell may be higher than another one.
func Relation(s api.Story, slice, a, b int) (api.Span, api.Errno) {
	views, e := openStory(s)
	if e != api.OK {
		return api.Span{}, e
	}
	if !isSlice(s, slice) || !isCell(s, a) || !isCell(s, b) {
		return api.Span{}, api.ErrArg
	}
	var spans []api.Span
	p, q := place{a, slice}, place{b, slice}
	c := chartOf(s, p, q)
	for _, up := range c.living(views) {
		most := c.tree(up.ways, q, false).sums[c.index[p]]
		least := -c.tree(up.ways, p, false).sums[c.index[q]]
		spans = join(spans, []api.Span{{Lo: least, Hi: most}})
	}
	return onlyOne(spans)
}

// Within returns the bounds of all heights in a world.
func Within(s api.Story, world []int, slice int) ([]api.Span, api.Errno) {
	v, e := openWorld(s, world)
	if e != api.OK {
		return nil, e
	}
	if !isSlice(s, slice) {
		return nil, api.ErrArg
	}
	return v.within(slice)
}

// Lowest returns the least heights of a world.
func Lowest(s api.Story, world []int) ([][]int, api.Errno) {
	return ends(s, world, func(x api.Span) int { return x.Lo })
}

// Highest returns the greatest heights of a world.
func Highest(s api.Story, world []int) ([][]int, api.Errno) {
	return ends(s, world, func(x api.Span) int { return x.Hi })
}

// ends returns an end of the span of each cell at each slice.
func ends(s api.Story, world []int, end func(api.Span) int) ([][]int, api.Errno) {
	v, e := openWorld(s, world)
	if e != api.OK {
		return nil, e
	}
	var h [][]int
	for slice := range len(s.Steps) + 1 {
		spans, e := v.within(slice)
		if e != api.OK {
			return nil, e
		}
		var row []int
		for _, x := range spans {
			row = append(row, end(x))
		}
		h = append(h, row)
	}
	return h, api.OK
}

func (v view) within(slice int) ([]api.Span, api.Errno) {
	c := chartOfSlice(v.story, slice)
	for _, up := range c.living([]view{v}) {
		return c.spans(v, up, slice), api.OK
	}
	return nil, api.ErrClash
}

func (v view) lives() bool {
	c := chartOf(v.story)
	return c.tree(c.ways(v), ground(), false).lives()
}

// chartOfSlice is a chart on which each cell that was read is at a slice.
func chartOfSlice(s api.Story, slice int) chart {
	var asked []place
	for _, x := range s.Readings {
		asked = append(asked, place{x.A, slice})
		if x.B != groundCell {
			asked = append(asked, place{x.B, slice})
		}
	}
	return chartOf(s, asked...)
}

// downFrom returns the tree from all places to the ground, by the ways of the one from the ground.
func (c chart) downFrom(up tree) tree { return c.tree(up.ways, ground(), true) }

// spans returns the spans of all cells at the slice of a chart.
func (c chart) spans(v view, up tree, slice int) []api.Span {
	down := c.downFrom(up)
	var l []api.Span
	for cell := range v.story.Start {
		p := place{cell, slice}
		if _, read := c.index[p]; read {
			l = append(l, c.span(up, down, p))
		} else {
			l = append(l, v.alone(p))
		}
	}
	return l
}

// span returns the span of a place of a chart.
func (c chart) span(up, down tree, p place) api.Span {
	at := c.index[p]
	return api.Span{Lo: -down.sums[at], Hi: up.sums[at]}
}

// alone returns the span of a cell that no reading tells of.
func (v view) alone(p place) api.Span {
	x := v.story.Start[p.cell]
	least, most := v.takes(p.cell, 0, p.slice)
	return api.Span{Lo: x.Lo - most, Hi: x.Hi - least}
}

// join returns the spans from the least to the greatest ends of two lists of them; the first one is empty at first.
func join(l, other []api.Span) []api.Span {
	if len(l) == 0 {
		return other
	}
	for i, x := range other {
		l[i] = api.Span{Lo: min(l[i].Lo, x.Lo), Hi: max(l[i].Hi, x.Hi)}
	}
	return l
}

// onlyOne returns the span of a list of at most one; none is left where no world lives.
func onlyOne(l []api.Span) (api.Span, api.Errno) {
	if len(l) == 0 {
		return api.Span{}, api.ErrClash
	}
	return l[0], api.OK
}
