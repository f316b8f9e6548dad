package wear_test

import (
	"slices"
	"testing"

	"millrind/api"
	"millrind/wear"
)

// P4.1, W7 to W10: the examples of the chapter, and example 4 of DOC.md.
func TestExampleHeights(t *testing.T) {
	s := example()
	wantSpans(t, "Within", must[[]api.Span](t, "Within")(wear.Within(s, []int{2}, 1)), []api.Span{{Lo: 90, Hi: 90}, {Lo: 87, Hi: 90}})
	wantSpans(t, "Heights", must[[]api.Span](t, "Heights")(wear.Heights(s, 0)), []api.Span{{Lo: 100, Hi: 100}, {Lo: 107, Hi: 110}})
	if x := must[api.Span](t, "Height")(wear.Height(s, 1, 1)); x != (api.Span{Lo: 87, Hi: 90}) {
		t.Errorf("Height: %v", x)
	}
	if x := must[api.Span](t, "Relation")(wear.Relation(s, 1, 0, 1)); x != (api.Span{Lo: 0, Hi: 3}) {
		t.Errorf("Relation: %v", x)
	}
	read := api.Story{Start: []api.Span{{Lo: 10, Hi: 12}}, Readings: []api.Reading{{A: 0, B: -1, Diff: api.Span{Lo: 11, Hi: 20}}}}
	wantSpans(t, "a cell that was read", must[[]api.Span](t, "Heights")(wear.Heights(read, 0)), []api.Span{{Lo: 11, Hi: 12}})
}

// P4.1, W7, W8, W10: spans and relations in a story are from the least to the greatest ends in the worlds that live.
func TestHeightsOfSmallStories(t *testing.T) {
	eachLiving(t, 400, func(s api.Story, l []model) {
		for slice := range len(s.Steps) + 1 {
			all := must[[]api.Span](t, "Heights")(wear.Heights(s, slice))
			if len(all) != len(s.Start) {
				t.Fatalf("Heights(%d): %v", slice, all)
			}
			for a := range s.Start {
				want := hull(l, func(m model) api.Span { return m.span(slice, a) })
				if x := must[api.Span](t, "Height")(wear.Height(s, slice, a)); x != want || all[a] != want {
					t.Errorf("the cell %d at %d: Height %v, Heights %v, want %v", a, slice, x, all[a], want)
				}
				for b := range s.Start {
					want := hull(l, func(m model) api.Span { return m.relation([2]int{a, slice}, [2]int{b, slice}) })
					if x := must[api.Span](t, "Relation")(wear.Relation(s, slice, a, b)); x != want {
						t.Errorf("Relation(%d, %d, %d): %v, want %v", slice, a, b, x, want)
					}
				}
			}
		}
	})
}

// P4.1, W9, W11, W12: the spans of a world, and the heights of all least and of all greatest ends.
func TestWithinSmallStories(t *testing.T) {
	eachWorld(t, 400, func(s api.Story, m model) {
		low, e := wear.Lowest(s, m.world)
		high, f := wear.Highest(s, m.world)
		if !m.lives {
			if e != api.ErrClash || f != api.ErrClash || len(low)+len(high) > 0 {
				t.Errorf("Lowest and Highest of %v: %v, %d, %v, %d", m.world, low, e, high, f)
			}
			return
		}
		wantLists(t, "Lowest", low, m.rows(s, false))
		wantLists(t, "Highest", high, m.rows(s, true))
		for slice := range len(s.Steps) + 1 {
			wantSpans(t, "Within", must[[]api.Span](t, "Within")(wear.Within(s, m.world, slice)), m.spans(s, slice))
		}
	})
}

// P4.2, P0.4: Lowest and Highest keep all bounds, no heights that keep all bounds leave Within, and each end in the story is one of a world that lives. All heights are gone through.
func TestSpansAreExact(t *testing.T) {
	eachWorld(t, 300, func(s api.Story, m model) {
		count := 0
		var least, most [][]int
		for h := range everyHeights(s, m.world) {
			if count++; count == 1 {
				least, most = cloneRows(h), cloneRows(h)
			}
			for i, row := range h {
				for c, n := range row {
					least[i][c], most[i][c] = min(least[i][c], n), max(most[i][c], n)
				}
			}
		}
		if lives := must[bool](t, "Closes")(wear.Closes(s, m.world)); lives != (count > 0) {
			t.Errorf("Closes(%v): %v, with %d heights", m.world, lives, count)
		}
		if count == 0 {
			return
		}
		low := must[[][]int](t, "Lowest")(wear.Lowest(s, m.world))
		high := must[[][]int](t, "Highest")(wear.Highest(s, m.world))
		wantLists(t, "Lowest", low, least)
		wantLists(t, "Highest", high, most)
		for _, h := range [][][]int{low, high} {
			if !must[bool](t, "Keeps")(wear.Keeps(s, m.world, h)) {
				t.Errorf("Lowest or Highest does not keep all bounds: %v", h)
			}
		}
	})
}

func cloneRows(h [][]int) [][]int {
	var l [][]int
	for _, row := range h {
		l = append(l, slices.Clone(row))
	}
	return l
}

// P4.1, W13: Keeps says of each of many heights whether they keep all bounds, as the chapter's words do.
func TestKeeps(t *testing.T) {
	eachWorld(t, 200, func(s api.Story, m model) {
		if !m.lives {
			return
		}
		for _, h := range [][][]int{m.rows(s, false), m.rows(s, true)} {
			for i, row := range h {
				for c := range row {
					for _, d := range []int{-1, 0, 1} {
						row[c] += d
						if is := must[bool](t, "Keeps")(wear.Keeps(s, m.world, h)); is != keepsAll(m.bounds, h) {
							t.Errorf("Keeps(%v) with %d at %d, %d: %v", h, row[c], i, c, is)
						}
						row[c] -= d
					}
				}
			}
		}
	})
}

// P4.1, W13: lists of another shape, and numbers beyond 2^60, are no heights; also in a world that does not live Keeps answers.
func TestKeepsNoHeights(t *testing.T) {
	s := example()
	good := [][]int{{100, 108}, {90, 88}}
	for _, x := range []struct {
		what string
		h    [][]int
		want bool
	}{
		{"good heights", good, true},
		{"nothing", nil, false},
		{"a slice too few", good[:1], false},
		{"a slice too many", [][]int{{100, 108}, {90, 88}, {90, 88}}, false},
		{"a cell too few", [][]int{{100, 108}, {90}}, false},
		{"a cell too many", [][]int{{100, 108, 0}, {90, 88}}, false},
		{"another height", [][]int{{100, 108}, {90, 89}}, false},
		{"far too high", [][]int{{100, 108}, {90, 1<<63 - 1}}, false},
		{"far too low", [][]int{{-1 << 63, 108}, {90, 88}}, false},
	} {
		if is := must[bool](t, x.what)(wear.Keeps(s, []int{2}, x.h)); is != x.want {
			t.Errorf("%s: %v", x.what, is)
		}
	}
	if is := must[bool](t, "dead")(wear.Keeps(s, []int{4}, good)); is {
		t.Error("heights keep the bounds of a world that does not live")
	}
}

// P4.5: the other way round a relation has the opposite signs; it lies within what spans allow; two of them contain the third one; each reading contains its own.
func TestRelations(t *testing.T) {
	eachLiving(t, 300, func(s api.Story, l []model) {
		for slice, spans := range heightsOf(t, s) {
			between := func(a, b int) api.Span { return must[api.Span](t, "Relation")(wear.Relation(s, slice, a, b)) }
			for a := range s.Start {
				for b := range s.Start {
					x, y := between(a, b), between(b, a)
					if x.Lo != -y.Hi || x.Hi != -y.Lo {
						t.Errorf("%d and %d at %d: %v, and %v back", a, b, slice, x, y)
					}
					if a == b && x != (api.Span{}) {
						t.Errorf("a cell and itself: %v", x)
					}
					if x.Lo < spans[a].Lo-spans[b].Hi || x.Hi > spans[a].Hi-spans[b].Lo {
						t.Errorf("%d and %d at %d: %v is beyond %v", a, b, slice, x, spans)
					}
					for c := range s.Start {
						y, z := between(b, c), between(a, c)
						if z.Lo < x.Lo+y.Lo || z.Hi > x.Hi+y.Hi {
							t.Errorf("%d, %d and %d at %d: %v, %v, %v", a, b, c, slice, x, y, z)
						}
					}
				}
			}
		}
		for _, x := range s.Readings {
			if x.B == -1 {
				continue
			}
			if y := must[api.Span](t, "Relation")(wear.Relation(s, x.Slice, x.A, x.B)); y.Lo < x.Diff.Lo || y.Hi > x.Diff.Hi {
				t.Errorf("the reading %v does not contain %v", x, y)
			}
		}
	})
}

// P4.6: at a later slice the ends of a span are not greater, and behind a pass that left a cell alone they are the same.
func TestWearOnlyTakesAway(t *testing.T) {
	alone := 0
	eachLiving(t, 900, func(s api.Story, l []model) {
		spans := heightsOf(t, s)
		for i, x := range s.Steps {
			for c := range s.Start {
				old, now := spans[i][c], spans[i+1][c]
				if now.Lo > old.Lo || now.Hi > old.Hi {
					t.Errorf("the cell %d grows from %v to %v", c, old, now)
				}
				if x.Kind == api.StepPass && x.Times[c] == 0 {
					if alone++; now != old {
						t.Errorf("the cell %d was left alone, and goes from %v to %v", c, old, now)
					}
				}
			}
		}
	})
	if alone < 20 {
		t.Errorf("only %d cells were left alone", alone)
	}
}

// P4.7: with a further reading no span in the story becomes larger, and no world lives that did not; the Relation of two cells as a reading changes nothing.
func TestMoreIsKnown(t *testing.T) {
	stories := smalls(300)
	eachLiving(t, 300, func(s api.Story, l []model) {
		spans := heightsOf(t, s)
		for _, other := range stories[:20] {
			for _, x := range other.Readings {
				more := clone(s)
				more.Readings = append(more.Readings, x)
				if e, _ := wear.Check(more); e == api.OK {
					lessOrEqual(t, more, s, spans)
				}
			}
		}
		for slice := range spans {
			for a := range s.Start {
				for b := range a {
					more := clone(s)
					x := must[api.Span](t, "Relation")(wear.Relation(s, slice, a, b))
					more.Readings = append(more.Readings, api.Reading{Slice: slice, A: a, B: b, Diff: x})
					for i, row := range heightsOf(t, more) {
						wantSpans(t, "with a relation as a reading", row, spans[i])
					}
				}
			}
		}
	})
}

func lessOrEqual(t *testing.T, more, s api.Story, spans [][]api.Span) {
	t.Helper()
	worlds, e := wear.Living(more)
	if e == api.ErrClash {
		return
	}
	for _, w := range worlds {
		if !must[bool](t, "Closes")(wear.Closes(s, w)) {
			t.Errorf("the world %v lives with one more reading", w)
		}
	}
	for i, row := range heightsOf(t, more) {
		for c, x := range row {
			if x.Lo < spans[i][c].Lo || x.Hi > spans[i][c].Hi {
				t.Errorf("with one more reading %v becomes %v", spans[i][c], x)
			}
		}
	}
}
