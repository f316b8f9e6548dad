package books_test

import (
	"math"
	"slices"
	"testing"

	"millrind/api"
)

// change is something that is done to a book, and what is wrong with it then.
type change struct {
	do     func(x *api.Book)
	faults []api.Fault
}

func bad(kind, index int, do func(x *api.Book)) change {
	return change{do, []api.Fault{fault(kind, index)}}
}

func good(do func(x *api.Book)) change { return change{do, nil} }

// wantChanges does each change to a book of its own.
func wantChanges(t *testing.T, b api.Base, r api.Register, changes map[string]change) {
	t.Helper()
	for what, c := range changes {
		x := build(t, b, r)
		wantFaults(t, what+": ahead of it", x)
		c.do(&x)
		wantFaults(t, what, x, c.faults...)
	}
}

// P10.1, B6, step 1: the base, Trouble, and the stories; one fault, whatever else there is.
func TestBaseFaults(t *testing.T) {
	bad := func(do func(x *api.Book)) change { return bad(api.FaultBase, 0, do) }
	changes := map[string]change{
		"a story without cells":          bad(func(x *api.Book) { x.Sides[0].Story.Start = nil }),
		"a story that is not valid":      bad(func(x *api.Book) { x.Sides[1].Story.Heaps[0].Lo = 0 }),
		"a story with too many readings": bad(func(x *api.Book) { x.Sides[1].Story.Readings = make([]api.Reading, 201) }),
		"another start of the bed":       bad(func(x *api.Book) { x.Sides[0].Story.Start[1].Hi++ }),
		"another start of the runner":    bad(func(x *api.Book) { x.Sides[1].Story.Start[0].Lo-- }),
		"another start of the base":      bad(func(x *api.Book) { x.Base.Start[1][1].Lo-- }),
		"a longer story":                 bad(func(x *api.Book) { x.Sides[0].Story.Start = append(x.Sides[0].Story.Start, span(1, 1)) }),
		"both, and all else": bad(func(x *api.Book) {
			*x = api.Book{Trouble: api.ErrClash}
		}),
	}
	for what, b := range badBases() {
		changes[what] = bad(func(x *api.Book) { x.Base = b })
	}
	for _, e := range []api.Errno{api.ErrArg, api.ErrLimit, api.ErrBase, 54, 56, 42, -1, math.MaxInt, math.MinInt} {
		changes["the trouble "+text(int(e))] = bad(func(x *api.Book) { x.Trouble = e })
	}
	wantChanges(t, aBase(), passed(), changes)
}

// P10.1, B6, step 2: Rank, and Least where Rank is right.
func TestRankFaults(t *testing.T) {
	wantChanges(t, aBase(), known(), map[string]change{
		"no rank":                    bad(api.FaultRank, 0, func(x *api.Book) { x.Rank = nil }),
		"too short a rank":           bad(api.FaultRank, 0, func(x *api.Book) { x.Rank = x.Rank[:3] }),
		"too long a rank":            bad(api.FaultRank, 0, func(x *api.Book) { x.Rank = append(x.Rank, 1) }),
		"an entry without a rank":    bad(api.FaultRank, 0, func(x *api.Book) { x.Rank[3] = 0 }),
		"no least":                   bad(api.FaultRank, 1, func(x *api.Book) { x.Least = nil }),
		"too short a least":          bad(api.FaultRank, 1, func(x *api.Book) { x.Least = x.Least[1:] }),
		"too long a least":           bad(api.FaultRank, 1, func(x *api.Book) { x.Least = append(x.Least, 1) }),
		"an entry below all":         bad(api.FaultRank, 1, func(x *api.Book) { x.Least[2] = -1 }),
		"more cuts than there are":   bad(api.FaultRank, 1, func(x *api.Book) { x.Least[2] = 2 }),
		"both":                       bad(api.FaultRank, 0, func(x *api.Book) { x.Rank[0], x.Least[0] = 0, 2 }),
		"and a side":                 bad(api.FaultRank, 1, func(x *api.Book) { x.Least[0], x.Sides[0] = 2, api.Side{Story: x.Sides[0].Story} }),
		"greater ranks":              good(func(x *api.Book) { x.Rank = []int{9, 1, 400, 7} }),
		"fewer cuts":                 good(func(x *api.Book) { x.Least = []int{1, 0, 1, 1} }),
		"a rank, and the last fault": bad(api.FaultRank, 0, func(x *api.Book) { x.Rank[0], x.Weights = 0, nil }),
	})
}

// P10.1, B6, step 2: where there are further rings, states that are not entered need no rank, and ranks decrease from state to state.
func TestRankFaultsOfRings(t *testing.T) {
	b := plainBase(2, 2)
	wantChanges(t, b, api.Register{}, map[string]change{
		"equal ranks":                 bad(api.FaultRank, 0, func(x *api.Book) { x.Rank[2] = 2 }),
		"a state without a rank":      bad(api.FaultRank, 0, func(x *api.Book) { x.Rank[2] = -1 }),
		"cuts that are not behind":    bad(api.FaultRank, 1, func(x *api.Book) { x.Least[2] = 0 }),
		"fewer cuts all the way":      good(func(x *api.Book) { x.Least = []int{1, 1, 0, 0, 1, 1, 0, 0} }),
		"an entry more than there is": bad(api.FaultRank, 1, func(x *api.Book) { x.Least[0] = 3 }),
	})
}

// P10.1, B6, step 3: sides with worlds.
func TestWorldFaults(t *testing.T) {
	var changes = map[string]change{
		"both sides":               {func(x *api.Book) { x.Sides[0].Worlds[0].Hard[0], x.Sides[1].Loops = 0, make([]api.Case, 1) }, []api.Fault{fault(3, 0), fault(3, 1)}},
		"worlds and told are lost": bad(3, 1, func(x *api.Book) { x.Sides[1].Worlds, x.Sides[1].Told = nil, nil }),
	}
	for stone := range 2 {
		bad := func(do func(x *api.Side)) change {
			return bad(api.FaultWorld, stone, func(x *api.Book) { do(&x.Sides[stone]) })
		}
		for what, c := range map[string]change{
			"a loop":                   bad(func(x *api.Side) { x.Loops = make([]api.Case, 1) }),
			"worlds are lost":          bad(func(x *api.Side) { x.Worlds = nil }),
			"equal worlds":             bad(func(x *api.Side) { x.Worlds[1] = x.Worlds[0] }),
			"worlds out of order":      bad(func(x *api.Side) { x.Worlds[1], x.Worlds[2] = x.Worlds[2], x.Worlds[1] }),
			"a world too hard":         bad(func(x *api.Side) { x.Worlds[2].Hard[0] = 4 }),
			"a world of no heaps":      bad(func(x *api.Side) { x.Worlds[0].Hard = nil }),
			"a world of two heaps":     bad(func(x *api.Side) { x.Worlds[0].Hard = []int{1, 1} }),
			"another world's heights":  bad(func(x *api.Side) { x.Worlds[0].Lowest = x.Worlds[1].Lowest }),
			"a low height":             bad(func(x *api.Side) { x.Worlds[0].Lowest[0][0]-- }),
			"a high height":            bad(func(x *api.Side) { x.Worlds[2].Highest[1][1]++ }),
			"a height beyond all":      bad(func(x *api.Side) { x.Worlds[2].Highest[1][1] = math.MaxInt }),
			"no lowest heights":        bad(func(x *api.Side) { x.Worlds[1].Lowest = nil }),
			"too few slices":           bad(func(x *api.Side) { x.Worlds[1].Highest = x.Worlds[1].Highest[:1] }),
			"too few cells":            bad(func(x *api.Side) { x.Worlds[1].Highest[1] = x.Worlds[1].Highest[1][:1] }),
			"a world and a wrong told": bad(func(x *api.Side) { x.Worlds[0].Lowest[0][0]--; x.Told[0].Cell = 7 }),
		} {
			changes[what+" of the stone "+text(stone)] = c
		}
	}
	changes["heights that are not the ends"] = good(func(x *api.Book) {
		x.Sides[1].Worlds[1].Lowest, x.Sides[0].Worlds[1].Highest = x.Sides[1].Worlds[1].Highest, x.Sides[0].Worlds[1].Lowest
	})
	changes["a world is left out"] = good(func(x *api.Book) {
		side := &x.Sides[1]
		side.Worlds = slices.Delete(side.Worlds, 1, 2)
		side.Told[0].LowIn, side.Told[1].LowIn = 1, 1
	})
	wantChanges(t, aBase(), apart(), changes)
}

// P10.1, B6, step 3: a side that is large is wrong, however right it is.
func TestLargeFaults(t *testing.T) {
	wantChanges(t, plainBase(1, 17), wideRegister(16, 15), map[string]change{
		"the bed":    bad(api.FaultWorld, 0, func(x *api.Book) { x.Sides[0].Story.Heaps[1].Hi = 16 }),
		"the runner": bad(api.FaultWorld, 1, func(x *api.Book) { x.Sides[1].Story.Heaps[1].Hi = 16 }),
	})
	wantChanges(t, aBase(), wideRegister(255, 1), map[string]change{
		"a wide story": bad(api.FaultWorld, 1, func(x *api.Book) { x.Sides[1].Story.Heaps[1].Hi = 2 }),
	})
	r := wideRegister(255, 1)
	r.Events = []api.Event{reading(9, 0, 0, -1, 20, 30)}
	wantChanges(t, aBase(), r, map[string]change{
		"a wide story that clashes": bad(api.FaultWorld, 0, func(x *api.Book) { x.Sides[0].Story.Heaps[1].Hi = 2 }),
	})
}

// dead is a register of a heap of three hardnesses with which neither stone can be as it was read.
func dead() api.Register {
	r := done(pass(2, 1, 1), reading(3, 0, 0, -1, 30, 40), reading(4, 1, 0, 1, 30, 40), reading(5, 1, 0, 1, 31, 40))
	r.Heaps = []api.Event{heap(1, 1, 3)}
	return r
}

// P10.1, B6, step 3: sides without worlds.
func TestLoopFaults(t *testing.T) {
	bad := func(do func(x *api.Side)) change {
		return bad(api.FaultWorld, 1, func(x *api.Book) { do(&x.Sides[1]) })
	}
	wantChanges(t, aBase(), dead(), map[string]change{
		"no loops":              bad(func(x *api.Side) { x.Loops = nil }),
		"too few loops":         bad(func(x *api.Side) { x.Loops = x.Loops[:2] }),
		"too many loops":        bad(func(x *api.Side) { x.Loops = append(x.Loops, x.Loops[2]) }),
		"loops out of order":    bad(func(x *api.Side) { x.Loops[0], x.Loops[1] = x.Loops[1], x.Loops[0] }),
		"the loop of one world": bad(func(x *api.Side) { x.Loops[0].World = nil }),
		"no loop":               bad(func(x *api.Side) { x.Loops[1].Loop = false }),
		"a path of nothing":     bad(func(x *api.Side) { x.Loops[1].Path = nil }),
		"a path that is open":   bad(func(x *api.Side) { x.Loops[1].Path = x.Loops[1].Path[1:] }),
		"a bound of no world":   bad(func(x *api.Side) { x.Loops[2].Path[0].Most-- }),
		"a cell is told":        bad(func(x *api.Side) { x.Told = make([]api.Told, 1) }),
		"a world":               bad(func(x *api.Side) { x.Worlds = make([]api.World, 1) }),
		"a loop gone twice":     good(func(x *api.Book) { x.Sides[1].Loops[0].Path = slices.Repeat(x.Sides[1].Loops[0].Path, 2) }),
		"a loop from elsewhere": good(func(x *api.Book) {
			path := x.Sides[1].Loops[0].Path
			x.Sides[1].Loops[0].Path = append(path[1:], path[0])
		}),
		"both": {func(x *api.Book) { x.Sides[0].Loops, x.Sides[1].Loops = nil, nil }, []api.Fault{fault(3, 0), fault(3, 1)}},
	})
	wantChanges(t, aBase(), clashing(0), map[string]change{
		"the loops of the wrong stone": {func(x *api.Book) {
			x.Sides[0].Loops, x.Sides[1].Loops = nil, x.Sides[0].Loops
		}, []api.Fault{fault(3, 0), fault(3, 1)}},
	})
}

// apart is a register of a pass of a heap of three hardnesses, of which nothing is read: each end of a height occurs in one world.
func apart() api.Register {
	r := done(pass(2, 1, 1))
	r.Heaps = []api.Event{heap(1, 1, 3)}
	return r
}

// P10.1, B6, step 4: what is told of each cell; all cells that are wrong are named.
func TestToldFaults(t *testing.T) {
	changes := map[string]change{
		"cells of both stones": {func(x *api.Book) {
			for stone := range x.Sides {
				for i := range x.Sides[stone].Told {
					x.Sides[stone].Told[i].Height.Hi++
				}
			}
		}, []api.Fault{fault(4, 0), fault(4, 1), fault(4, 2), fault(4, 3)}},
		"too few of one stone, and a cell": {func(x *api.Book) {
			x.Sides[0].Told = nil
			x.Sides[1].Told[1].Cell = 0
		}, []api.Fault{fault(4, 0), fault(4, 3)}},
		"too many, and a cell of them": {func(x *api.Book) {
			x.Sides[0].Told[0].Cell = 1
			x.Sides[0].Told = append(x.Sides[0].Told, x.Sides[0].Told[1])
		}, []api.Fault{fault(4, 2)}},
		"too few of the runner": bad(4, 3, func(x *api.Book) { x.Sides[1].Told = x.Sides[1].Told[:1] }),
		"a told and a line":     bad(4, 0, func(x *api.Book) { x.Sides[0].Told[0].Cell, x.Lines = 1, nil }),
	}
	for at := range 4 {
		told := func(x *api.Book) *api.Told { return &x.Sides[at/2].Told[at%2] }
		bad := func(do func(x *api.Told)) change { return bad(api.FaultTold, at, func(x *api.Book) { do(told(x)) }) }
		for what, c := range map[string]change{
			"another cell":           bad(func(x *api.Told) { x.Cell++ }),
			"a lower end":            bad(func(x *api.Told) { x.Height.Lo-- }),
			"too high a lower end":   bad(func(x *api.Told) { x.Height.Lo++ }),
			"an upper end":           bad(func(x *api.Told) { x.Height.Hi++ }),
			"too low an upper end":   bad(func(x *api.Told) { x.Height.Hi-- }),
			"no proof of the low":    bad(func(x *api.Told) { x.Low = nil }),
			"no proof of the high":   bad(func(x *api.Told) { x.High = nil }),
			"the wrong proofs":       bad(func(x *api.Told) { x.Low, x.High = x.High, x.Low }),
			"a case too few":         bad(func(x *api.Told) { x.Low = x.Low[1:] }),
			"a case without a world": bad(func(x *api.Told) { x.High[0].World = nil }),
			"a path is a loop":       bad(func(x *api.Told) { x.High[0].Loop = true }),
			"a bound that is not so": bad(func(x *api.Told) { x.Low[2].Path[0].Most++ }),
			"no world below":         bad(func(x *api.Told) { x.LowIn = -1 }),
			"no world above":         bad(func(x *api.Told) { x.HighIn = 3 }),
			"a world beyond all":     bad(func(x *api.Told) { x.HighIn = math.MinInt }),
			"another world below":    bad(func(x *api.Told) { x.LowIn = 0 }),
			"another world above":    bad(func(x *api.Told) { x.HighIn = 2 }),
		} {
			changes[what+" of the cell "+text(at)] = c
		}
	}
	changes["a way that proves less where the height is greater"] = good(func(x *api.Book) {
		c := &x.Sides[0].Told[0].Low[0]
		there := api.Bound{From: -1, Most: 12, Kind: api.BoundStart}
		back := api.Bound{To: -1, Most: -10, Kind: api.BoundStart}
		c.Path = append(c.Path, there, back)
	})
	changes["a way that proves less"] = bad(api.FaultTold, 0, func(x *api.Book) {
		c := &x.Sides[0].Told[0].Low[2]
		there := api.Bound{From: -1, Most: 12, Kind: api.BoundStart}
		back := api.Bound{To: -1, Most: -10, Kind: api.BoundStart}
		c.Path = append(c.Path, there, back)
	})
	wantChanges(t, aBase(), apart(), changes)
}

// P10.1, B6, step 4: other proofs and other worlds will do, and heights that are the same at both ends.
func TestOtherProofs(t *testing.T) {
	r := wideRegister(3, 2)
	r.Events = append(r.Events, strokes(9, 0, 0, 0), strokes(10, 0, 0, 1))
	b := withBase(func(b *api.Base) { b.Deep = span(2, 3) })
	wantChanges(t, b, r, map[string]change{
		"later worlds": good(func(x *api.Book) { x.Sides[0].Told[0].LowIn, x.Sides[0].Told[1].HighIn = 5, 3 }),
		"a longer way": good(func(x *api.Book) {
			c := &x.Sides[0].Told[1].Low[0]
			back := api.Bound{From: 1, FromAt: 1, To: 1, Kind: api.BoundStep}
			there := api.Bound{From: 1, To: 1, ToAt: 1, Kind: api.BoundStep}
			c.Path = slices.Insert(c.Path, 1, back, there)
		}),
		"a way that proves less": bad(api.FaultTold, 1, func(x *api.Book) {
			c := &x.Sides[0].Told[1].Low[2]
			there := api.Bound{From: 1, FromAt: 1, To: 1, ToAt: 2, Most: -2, Kind: api.BoundStep, ID: 1}
			back := api.Bound{From: 1, FromAt: 2, To: 1, ToAt: 1, Most: 3, Kind: api.BoundStep, ID: 1}
			c.Path = slices.Insert(c.Path, 1, there, back)
		}),
	})
}
