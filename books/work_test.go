package books_test

import (
	"math"
	"slices"
	"testing"

	"millrind/api"
)

// P10.1, B6, step 5: where a side has no worlds there is nothing but the clash, and nothing further is looked at.
func TestClashFaults(t *testing.T) {
	bad := func(do func(x *api.Book)) change { return bad(api.FaultLine, 0, do) }
	for stone := range 2 {
		wantChanges(t, aBase(), clashing(stone), map[string]change{
			"no trouble":          bad(func(x *api.Book) { x.Trouble = api.OK }),
			"another trouble":     bad(func(x *api.Book) { x.Trouble = api.ErrReach }),
			"a line":              bad(func(x *api.Book) { x.Lines = make([]api.Line, 1) }),
			"shifts":              bad(func(x *api.Book) { x.Shifts = 1 }),
			"shifts below 0":      bad(func(x *api.Book) { x.Shifts = -1 }),
			"work":                bad(func(x *api.Book) { x.Work = make([][]int, 1) }),
			"a cut":               bad(func(x *api.Book) { x.Cut = []int{0} }),
			"a weight":            bad(func(x *api.Book) { x.Weights = []int{0} }),
			"lead":                bad(func(x *api.Book) { x.Lead = []int{0} }),
			"a tree":              bad(func(x *api.Book) { x.Tree.Kind = api.TreeSum }),
			"a pocket of no tree": bad(func(x *api.Book) { x.Tree.Pocket = 1 }),
			"an end of no tree":   bad(func(x *api.Book) { x.Tree.At = -1 }),
			"a way of no tree":    bad(func(x *api.Book) { x.Tree.Way.Y = 1 }),
			"kids of no tree":     bad(func(x *api.Book) { x.Tree.Kids = make([]api.Tree, 1) }),
			"all of these":        bad(func(x *api.Book) { x.Trouble, x.Lines, x.Shifts, x.Weights = 0, make([]api.Line, 2), 7, []int{1} }),
			"lists that are empty": good(func(x *api.Book) {
				x.Lines, x.Work, x.Lead, x.Tree.Kids = []api.Line{}, [][]int{}, []int{}, []api.Tree{}
			}),
		})
	}
}

// linesBase is a base of two rings: in the bed a ring to be dressed, with two plans that have as few strokes, and one that no strokes do; in the runner a vague ring, and one with nothing to do.
func linesBase() api.Base {
	b := plainBase(2, 3)
	b.Wide = 2
	b.Crew = api.Crew{Caps: []int{2, 2}, Reach: [][]int{{0, 3}, {0}}}
	b.Start[0] = []api.Span{span(10, 10), span(9, 10), span(10, 10), span(9, 9), span(30, 30), span(9, 9)}
	b.Aim[0] = []api.Span{span(0, 20), span(2, 4), span(0, 20), span(8, 9), span(0, 20), span(9, 9)}
	b.Start[1][1] = span(10, 22)
	b.Aim[1] = []api.Span{span(0, 20), span(0, 9), span(9, 9), span(10, 12), span(0, 12), span(0, 30)}
	return b
}

// P10.1, B5, B6, step 5: each state of a line, and what is wrong with it.
func TestLineFaults(t *testing.T) {
	x := build(t, linesBase(), api.Register{})
	for i, state := range []int{api.LineWork, api.LineNever, api.LineVague, api.LineWork} {
		want(t, "a state", x.Lines[i].State, state)
	}
	want(t, "the first cell", x.Lines[2].Cell, 1)
	want(t, "the plans", [][]int{x.Lines[0].Plan, x.Lines[3].Plan}, [][]int{{0, 3}, {0, 0}})
	changes := map[string]change{
		"a clash":             bad(api.FaultLine, 0, func(x *api.Book) { x.Trouble = api.ErrClash }),
		"a clash and a line":  bad(api.FaultLine, 0, func(x *api.Book) { x.Trouble, x.Lines[2].State = api.ErrClash, 0 }),
		"a clash and nothing": bad(api.FaultLine, 0, func(x *api.Book) { x.Trouble, x.Lines = api.ErrClash, nil }),
		"no lines":            bad(api.FaultLine, 0, func(x *api.Book) { x.Lines = nil }),
		"too few lines":       bad(api.FaultLine, 3, func(x *api.Book) { x.Lines = x.Lines[:3] }),
		"too many lines":      bad(api.FaultLine, 4, func(x *api.Book) { x.Lines = append(x.Lines, x.Lines[3]) }),
		"too many, and wrong": bad(api.FaultLine, 4, func(x *api.Book) { x.Lines = append(x.Lines, x.Lines[0]); x.Lines[0].State = 0 }),
		"all lines and more": {func(x *api.Book) {
			for i := range x.Lines {
				x.Lines[i].Cell = 6
			}
			x.Shifts, x.Weights = -1, nil
		}, []api.Fault{fault(5, 0), fault(5, 1), fault(5, 2), fault(5, 3)}},
		"two lines for each other": {func(x *api.Book) { x.Lines[0], x.Lines[3] = x.Lines[3], x.Lines[0] }, []api.Fault{fault(5, 0), fault(5, 3)}},
		"another plan":             good(func(x *api.Book) { x.Lines[0].Plan = []int{1, 2} }),
	}
	for i := range 4 {
		bad := func(do func(x *api.Line)) change {
			return bad(api.FaultLine, i, func(x *api.Book) { do(&x.Lines[i]) })
		}
		for what, c := range map[string]change{
			"another stone":     bad(func(x *api.Line) { x.Stone = 1 - x.Stone }),
			"another ring":      bad(func(x *api.Line) { x.Ring = 1 - x.Ring }),
			"no state":          bad(func(x *api.Line) { x.State = 0 }),
			"a state too great": bad(func(x *api.Line) { x.State = 4 }),
			"the next state":    bad(func(x *api.Line) { x.State = x.State%3 + 1 }),
			"the last state":    bad(func(x *api.Line) { x.State = (x.State+1)%3 + 1 }),
			"another cell":      bad(func(x *api.Line) { x.Cell++ }),
			"a cell below":      bad(func(x *api.Line) { x.Cell-- }),
			"another width":     bad(func(x *api.Line) { x.Task.Wide++ }),
			"more need":         bad(func(x *api.Line) { x.Task.Need = append(x.Task.Need, span(0, 9)) }),
			"a low price more":  bad(func(x *api.Line) { x.Prices.Low = append(x.Prices.Low, 0) }),
			"a high price more": bad(func(x *api.Line) { x.Prices.High = append(x.Prices.High, 0) }),
			"a plan of more":    bad(func(x *api.Line) { x.Plan = append(x.Plan, 0) }),
		} {
			changes[what+" in the line "+text(i)] = c
		}
	}
	wantChanges(t, linesBase(), api.Register{}, changes)
}

// P10.1, B6, step 5: plans and prices of a line with work, and of one that no strokes do.
func TestPlanFaults(t *testing.T) {
	changes := map[string]change{}
	for what, c := range map[string]change{
		"no plan":                   bad(5, 0, func(x *api.Book) { x.Lines[0].Plan = nil }),
		"a plan of too few strokes": bad(5, 0, func(x *api.Book) { x.Lines[0].Plan = []int{0, 2} }),
		"a plan of too many":        bad(5, 0, func(x *api.Book) { x.Lines[0].Plan = []int{0, 4} }),
		"strokes below 0":           bad(5, 0, func(x *api.Book) { x.Lines[0].Plan = []int{-1, 4} }),
		"a plan beyond all":         bad(5, 0, func(x *api.Book) { x.Lines[0].Plan = []int{math.MaxInt, math.MinInt} }),
		"no prices":                 bad(5, 0, func(x *api.Book) { x.Lines[0].Prices = api.Prices{} }),
		"prices of nothing":         bad(5, 0, func(x *api.Book) { x.Lines[0].Prices.Low = make([]int, 3) }),
		"prices that gain too much": bad(5, 0, func(x *api.Book) { x.Lines[0].Prices.Low[1]++ }),
		"other needs":               bad(5, 0, func(x *api.Book) { x.Lines[0].Task.Need[0].Lo++ }),
		"a plan where there is none": bad(5, 1, func(x *api.Book) {
			x.Lines[1].Plan = []int{0, 0}
		}),
		"prices that do not prove it": bad(5, 1, func(x *api.Book) { x.Lines[1].Prices.Low = make([]int, 3) }),
		"prices of another line":      bad(5, 1, func(x *api.Book) { x.Lines[1].Prices = x.Lines[0].Prices }),
		"higher prices":               good(func(x *api.Book) { times(7, x.Lines[1].Prices) }),
		"a task of a vague line":      bad(5, 2, func(x *api.Book) { x.Lines[2].Task = x.Lines[0].Task }),
		"a width of a vague line":     bad(5, 2, func(x *api.Book) { x.Lines[2].Task.Wide = 2 }),
		"a second vague cell":         bad(5, 2, func(x *api.Book) { x.Lines[2].Cell = 2 }),
		"a line with work, to be vague": bad(5, 3, func(x *api.Book) {
			x.Lines[3] = api.Line{Stone: 1, Ring: 1, State: api.LineVague, Cell: 3}
		}),
		"prices of a line without work": good(func(x *api.Book) { x.Lines[3].Prices = api.Prices{Low: make([]int, 3), High: make([]int, 3)} }),
	} {
		changes[what] = c
	}
	wantChanges(t, linesBase(), api.Register{}, changes)
}

func times(n int, p api.Prices) {
	for i := range p.Low {
		p.Low[i] *= n
		p.High[i] *= n
	}
}

// P10.1, B6, step 6: shifts, work and cuts.
func TestShiftFaults(t *testing.T) {
	bad := func(do func(x *api.Book)) change { return bad(api.FaultShift, 0, do) }
	x := build(t, linesBase(), api.Register{})
	want(t, "the shifts", []any{x.Shifts, x.Cut}, []any{1, []int{0}})
	wantChanges(t, linesBase(), api.Register{}, map[string]change{
		"more shifts":             bad(func(x *api.Book) { x.Shifts++ }),
		"no shifts":               bad(func(x *api.Book) { x.Shifts = 0 }),
		"shifts below 0":          bad(func(x *api.Book) { x.Shifts = -1 }),
		"no work":                 bad(func(x *api.Book) { x.Work = nil }),
		"work of one":             bad(func(x *api.Book) { x.Work = x.Work[:1] }),
		"work of three":           bad(func(x *api.Book) { x.Work = append(x.Work, make([]int, 4)) }),
		"too much work":           bad(func(x *api.Book) { x.Work = [][]int{{3, 0, 0, 0}, {0, 0, 0, 0}} }),
		"too little work":         bad(func(x *api.Book) { x.Work = [][]int{{1, 0, 0, 0}, {1, 0, 0, 0}} }),
		"work beyond all":         bad(func(x *api.Book) { x.Work = [][]int{{math.MaxInt, 0, 0, 0}, {math.MinInt, 0, 0, 0}} }),
		"work elsewhere":          bad(func(x *api.Book) { x.Work[1][1] = 1 }),
		"no cut":                  bad(func(x *api.Book) { x.Cut = nil }),
		"a cut of no load":        bad(func(x *api.Book) { x.Cut = []int{3} }),
		"a cut beyond the lines":  bad(func(x *api.Book) { x.Cut = []int{0, 4} }),
		"a cut out of order":      bad(func(x *api.Book) { x.Cut = []int{3, 0} }),
		"nobody reaches":          bad(func(x *api.Book) { x.Trouble, x.Shifts, x.Work, x.Cut = api.ErrReach, 0, nil, nil }),
		"nobody reaches, somehow": bad(func(x *api.Book) { x.Trouble = api.ErrReach }),
		"other work":              good(func(x *api.Book) { x.Work[0], x.Work[1] = x.Work[1], x.Work[0] }),
		"another cut":             good(func(x *api.Book) { x.Cut = []int{0, 1, 2, 3} }),
		"shifts and weights":      bad(func(x *api.Book) { x.Shifts, x.Weights = 2, nil }),
	})
	b := withBase(func(b *api.Base) { b.Aim = b.Start })
	wantChanges(t, b, api.Register{}, map[string]change{
		"a shift":          bad(func(x *api.Book) { x.Shifts = 1 }),
		"no work":          bad(func(x *api.Book) { x.Work = nil }),
		"a line too many":  bad(func(x *api.Book) { x.Cut = []int{2} }),
		"a cut of nothing": good(func(x *api.Book) { x.Cut = []int{0, 1} }),
	})
	reach := troubled()["a line is not reached"]
	wantChanges(t, reach.base, reach.register, map[string]change{
		"no trouble":      bad(func(x *api.Book) { x.Trouble = api.OK }),
		"another trouble": bad(func(x *api.Book) { x.Trouble = api.ErrStone }),
		"shifts":          bad(func(x *api.Book) { x.Shifts = 1 }),
		"work":            bad(func(x *api.Book) { x.Work = make([][]int, 1) }),
		"a cut":           bad(func(x *api.Book) { x.Cut = []int{1} }),
		"empty lists":     good(func(x *api.Book) { x.Work, x.Cut = [][]int{}, []int{} }),
	})
	wantChanges(t, troubled()["no crew"].base, known(), map[string]change{
		"no trouble": bad(func(x *api.Book) { x.Trouble = api.OK }),
	})
}

func branch(pocket, at int, low, high api.Tree) api.Tree {
	return api.Tree{Kind: api.TreeBranch, Pocket: pocket, At: at, Kids: []api.Tree{low, high}}
}

// leadBase is a base whose runner needs two of lead, in either of two pockets or in both.
func leadBase() api.Base {
	b := aBase()
	b.Start[1] = []api.Span{span(14, 14), span(10, 10)}
	b.Pockets = []api.Pocket{{Arm: api.Point{X: -6}, Most: 2}, {Arm: api.Point{X: -6}, Most: 2}, {Arm: api.Point{Y: 1}, Most: 2}}
	b.Tol = 12
	return b
}

// P10.1, B6, step 7: weights, lead and the tree, for each Trouble.
func TestLeadFaults(t *testing.T) {
	bad := func(do func(x *api.Book)) change { return bad(api.FaultLead, 0, do) }
	want(t, "the lead", build(t, leadBase(), api.Register{}).Lead, []int{0, 2, 0})
	apart := api.Tree{Kind: api.TreeApart, Way: api.Point{X: 1}}
	wantChanges(t, leadBase(), api.Register{}, map[string]change{
		"no weights":           bad(func(x *api.Book) { x.Weights = nil }),
		"a weight too many":    bad(func(x *api.Book) { x.Weights = append(x.Weights, 0) }),
		"another weight":       bad(func(x *api.Book) { x.Weights[1]++ }),
		"the upper weights":    bad(func(x *api.Book) { x.Weights[0] = 15 }),
		"no lead":              bad(func(x *api.Book) { x.Lead = nil }),
		"too little lead":      bad(func(x *api.Book) { x.Lead = []int{0, 1, 0} }),
		"too much lead":        bad(func(x *api.Book) { x.Lead = []int{1, 2, 0} }),
		"lead below 0":         bad(func(x *api.Book) { x.Lead = []int{3, -1, 0} }),
		"lead beyond all":      bad(func(x *api.Book) { x.Lead = []int{math.MaxInt, math.MinInt, 3} }),
		"lead of two pockets":  bad(func(x *api.Book) { x.Lead = x.Lead[:2] }),
		"lead of four pockets": bad(func(x *api.Book) { x.Lead = append(x.Lead, 0) }),
		"no tree":              bad(func(x *api.Book) { x.Tree = api.Tree{} }),
		"a tree of nothing":    bad(func(x *api.Book) { x.Tree = api.Tree{Kind: api.TreeSum} }),
		"a tree that is wrong": bad(func(x *api.Book) { x.Tree = apart }),
		"no stone":             bad(func(x *api.Book) { x.Trouble, x.Lead, x.Tree = api.ErrStone, nil, api.Tree{} }),
		"no stone, but lead":   bad(func(x *api.Book) { x.Trouble = api.ErrStone }),
		"no balance":           bad(func(x *api.Book) { x.Trouble = api.ErrBalance }),
		"no balance, no lead":  bad(func(x *api.Book) { x.Trouble, x.Lead = api.ErrBalance, nil }),
		"other lead":           good(func(x *api.Book) { x.Lead = []int{1, 1, 0} }),
		"other pocket":         good(func(x *api.Book) { x.Lead = []int{2, 0, 0} }),
		"another tree": good(func(x *api.Book) {
			sum := api.Tree{Kind: api.TreeSum}
			none := branch(1, 1, apart, sum)
			one := branch(1, 0, apart, sum)
			x.Tree = branch(0, 0, none, branch(0, 1, one, sum))
		}),
	})
	stone := troubled()["no stone"]
	wantChanges(t, stone.base, stone.register, map[string]change{
		"no trouble":         bad(func(x *api.Book) { x.Trouble = api.OK }),
		"no balance instead": bad(func(x *api.Book) { x.Trouble = api.ErrBalance }),
		"lead":               bad(func(x *api.Book) { x.Lead = []int{0} }),
		"a tree":             bad(func(x *api.Book) { x.Tree.Kind = api.TreeSum }),
		"a part of a tree":   bad(func(x *api.Book) { x.Tree.At = 1 }),
		"other weights":      bad(func(x *api.Book) { x.Weights[0]-- }),
		"nobody reaches":     {func(x *api.Book) { x.Trouble = api.ErrReach }, []api.Fault{fault(api.FaultShift, 0)}},
	})
	balance := troubled()["no balance"]
	wantChanges(t, balance.base, balance.register, map[string]change{
		"no trouble":        bad(func(x *api.Book) { x.Trouble = api.OK }),
		"no stone instead":  bad(func(x *api.Book) { x.Trouble = api.ErrStone }),
		"lead":              bad(func(x *api.Book) { x.Lead = []int{0} }),
		"no tree":           bad(func(x *api.Book) { x.Tree = api.Tree{} }),
		"a tree of too few": bad(func(x *api.Book) { x.Tree = api.Tree{Kind: api.TreeSum} }),
		"a tree of one too few": bad(func(x *api.Book) {
			x.Tree = branch(0, 4, x.Tree, api.Tree{Kind: api.TreeSum})
		}),
		"a tree in branches": good(func(x *api.Book) { x.Tree = api.Tree{Kind: api.TreeBranch, At: 2, Kids: []api.Tree{x.Tree, x.Tree}} }),
	})
}

// P10.1, B6, step 7: where a line is not reached, lead and tree are as they would be without that.
func TestLeadWithoutReach(t *testing.T) {
	bad := func(do func(x *api.Book)) change { return bad(api.FaultLead, 0, do) }
	reach := troubled()["a line is not reached"]
	wantChanges(t, reach.base, reach.register, map[string]change{
		"no lead":       bad(func(x *api.Book) { x.Lead = nil }),
		"too much lead": bad(func(x *api.Book) { x.Lead[0] = 1 }),
		"no tree":       bad(func(x *api.Book) { x.Tree = api.Tree{} }),
	})
	stone := troubled()["not reached, and no stone"]
	wantChanges(t, stone.base, stone.register, map[string]change{
		"lead":   bad(func(x *api.Book) { x.Lead = []int{0} }),
		"a tree": bad(func(x *api.Book) { x.Tree.Kind = api.TreeApart }),
	})
	balance := troubled()["not reached, and no balance"]
	wantChanges(t, balance.base, balance.register, map[string]change{
		"lead":    bad(func(x *api.Book) { x.Lead = []int{5} }),
		"no tree": bad(func(x *api.Book) { x.Tree = api.Tree{} }),
	})
}

// P10.1, B6: a book may have any form: a tree that is a part of itself proves nothing, and stays as it is.
func TestRoundTrees(t *testing.T) {
	x := build(t, leadBase(), api.Register{})
	x.Tree = roundTree()
	wantFaults(t, "a tree that is a part of itself", x, fault(api.FaultLead, 0))
	wantFaults(t, "nothing", api.Book{}, fault(api.FaultBase, 0))
	x = build(t, aBase(), clashing(0))
	x.Tree = roundTree()
	wantFaults(t, "such a tree and a clash", x, fault(api.FaultLine, 0))
}

// roundTree is a tree whose first kid is the tree itself.
func roundTree() api.Tree {
	kids := make([]api.Tree, 2)
	tree := api.Tree{Kind: api.TreeBranch, At: 1, Kids: kids}
	kids[0] = tree
	return tree
}

// P10.1, B6: of lists that are too long or too short, the lesser one of both numbers is told.
func TestLongBooks(t *testing.T) {
	x := build(t, linesBase(), api.Register{})
	x.Sides[0].Told = slices.Repeat(x.Sides[0].Told, 2)
	x.Sides[1].Told = x.Sides[1].Told[:5]
	wantFaults(t, "too many, and too few", x, fault(4, 6), fault(4, 11))
}
