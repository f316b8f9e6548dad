package truth_test

import (
	"math"
	"reflect"
	"slices"
	"testing"

	"millrind/api"
	"millrind/truth"
)

// call returns whether the results of a function besides the error are zero values.
type call func() (zero bool, e api.Errno)

func one[T any](x T, e api.Errno) (bool, api.Errno) {
	v := reflect.ValueOf(x)
	return v.IsZero() || v.Kind() == reflect.Slice && v.Len() == 0, e
}

// stoneCalls are the functions of a stone.
func stoneCalls(s api.Stone, cell int, lead []int, way api.Point, tree api.Tree) map[string]call {
	return map[string]call{
		"Check":    func() (bool, api.Errno) { return true, truth.Check(s) },
		"Mass":     func() (bool, api.Errno) { return one(truth.Mass(s, cell)) },
		"Moment":   func() (bool, api.Errno) { return one(truth.Moment(s)) },
		"With":     func() (bool, api.Errno) { return one(truth.With(s, lead)) },
		"Balanced": func() (bool, api.Errno) { return one(truth.Balanced(s, lead)) },
		"Least":    func() (bool, api.Errno) { return one(truth.Least(s)) },
		"Lead":     func() (bool, api.Errno) { return one(truth.Lead(s)) },
		"Count":    func() (bool, api.Errno) { return one(truth.Count(s)) },
		"Reach":    func() (bool, api.Errno) { return one(truth.Reach(s, way)) },
		"Apart":    func() (bool, api.Errno) { return one(truth.Apart(s)) },
		"Prove": func() (bool, api.Errno) {
			x, n, e := truth.Prove(s)
			return reflect.ValueOf(x).IsZero() && n == 0, e
		},
		"CheckTree": func() (bool, api.Errno) {
			e, n := truth.CheckTree(s, 1, tree)
			return n == 0, e
		},
	}
}

// gapCalls are the functions of two lists of heights; least is what Lift is asked for.
func gapCalls(f api.Face, bed, runner []int, lift, turn, least int) map[string]call {
	return map[string]call{
		"Gaps":    func() (bool, api.Errno) { return one(truth.Gaps(f, bed, runner, lift, turn)) },
		"Closest": func() (bool, api.Errno) { return one(truth.Closest(f, bed, runner, lift)) },
		"Rubs":    func() (bool, api.Errno) { return one(truth.Rubs(f, bed, runner, lift)) },
		"Lift":    func() (bool, api.Errno) { return one(truth.Lift(f, bed, runner, least)) },
	}
}

// wantErrors checks that all functions return an error (others their own), with zero values.
func wantErrors(t *testing.T, what string, calls map[string]call, want api.Errno, others map[string]api.Errno) {
	t.Helper()
	for name, f := range calls {
		expected := want
		if e, is := others[name]; is {
			expected = e
		}
		zero, e := f()
		wantError(t, what+": "+name, e, expected)
		if e != api.OK && !zero {
			t.Errorf("%s: %s has results with an error", what, name)
		}
	}
}

// changed is the stone of the examples with a change.
func changed(change func(s *api.Stone)) api.Stone {
	s := example(3)
	change(&s)
	return s
}

// tooMany is a tree with more than MaxTree nodes.
func tooMany() api.Tree { return api.Tree{Kids: make([]api.Tree, 200000)} }

// P6.1, T1, Errors: all functions of a stone return ErrStone if it is not valid, whatever else is wrong.
func TestStoneErrors(t *testing.T) {
	for what, change := range map[string]func(s *api.Stone){
		"nothing":                func(s *api.Stone) { *s = api.Stone{} },
		"no eye":                 func(s *api.Stone) { s.Face.Eye = 0 },
		"too few kinds":          func(s *api.Stone) { s.Face.Kinds = s.Face.Kinds[:3] },
		"a kind that is none":    func(s *api.Stone) { s.Face.Kinds[3] = 3 },
		"too many sectors":       func(s *api.Stone) { s.Face.Sectors, s.Face.Rings = math.MaxInt, math.MaxInt },
		"no heights":             func(s *api.Stone) { s.Heights = nil },
		"too few heights":        func(s *api.Stone) { s.Heights = s.Heights[:3] },
		"too many heights":       func(s *api.Stone) { s.Heights = append(s.Heights, 0) },
		"a height too great":     func(s *api.Stone) { s.Heights[3] = 100001 },
		"a height too low":       func(s *api.Stone) { s.Heights[0] = -100001 },
		"the lowest height":      func(s *api.Stone) { s.Heights[0] = math.MinInt },
		"no compass":             func(s *api.Stone) { s.Compass = nil },
		"too few directions":     func(s *api.Stone) { s.Compass = s.Compass[:3] },
		"too many directions":    func(s *api.Stone) { s.Compass = append(s.Compass, api.Point{}) },
		"a direction too long":   func(s *api.Stone) { s.Compass[3].X = 1001 },
		"a direction too far":    func(s *api.Stone) { s.Compass[0].Y = -1001 },
		"too many pockets":       func(s *api.Stone) { s.Pockets = make([]api.Pocket, 9) },
		"an arm too long":        func(s *api.Stone) { s.Pockets[1].Arm.Y = 1000001 },
		"an arm too far":         func(s *api.Stone) { s.Pockets[0].Arm.X = -1000001 },
		"a pocket below 0":       func(s *api.Stone) { s.Pockets[1].Most = -1 },
		"a pocket too great":     func(s *api.Stone) { s.Pockets[0].Most = 256 },
		"a tol below 0":          func(s *api.Stone) { s.Tol = -1 },
		"a tol too great":        func(s *api.Stone) { s.Tol = 1000000000001 },
		"rich with a wrong tol":  func(s *api.Stone) { s.Pockets, s.Tol = slices.Repeat([]api.Pocket{pocket(1, 1, 255)}, 8), -1 },
		"too many, and a height": func(s *api.Stone) { s.Pockets, s.Heights[1] = make([]api.Pocket, 9), 100001 },
	} {
		wantErrors(t, what, stoneCalls(changed(change), -1, []int{-1}, api.Point{}, tooMany()), api.ErrStone, nil)
	}
}

// P6.1, T1: the greatest stones and numbers are valid, and so are the least ones.
func TestValidStones(t *testing.T) {
	for what, change := range map[string]func(s *api.Stone){
		"the example":         func(s *api.Stone) {},
		"no pockets":          func(s *api.Stone) { s.Pockets = nil },
		"an empty list":       func(s *api.Stone) { s.Pockets = []api.Pocket{} },
		"eight pockets":       func(s *api.Stone) { s.Pockets = make([]api.Pocket, 8) },
		"the greatest height": func(s *api.Stone) { s.Heights[0], s.Heights[3] = 100000, -100000 },
		"the longest way": func(s *api.Stone) {
			s.Compass[0], s.Compass[3] = api.Point{X: 1000, Y: -1000}, api.Point{X: -1000, Y: 1000}
		},
		"the longest arm":   func(s *api.Stone) { s.Pockets[1] = pocket(1000000, -1000000, 255) },
		"the farthest arm":  func(s *api.Stone) { s.Pockets[0] = pocket(-1000000, 1000000, 0) },
		"no tol":            func(s *api.Stone) { s.Tol = 0 },
		"the greatest tol":  func(s *api.Stone) { s.Tol = 1000000000000 },
		"a face of furrows": func(s *api.Stone) { s.Face.Kinds = []int{1, 2, 1, 2} },
	} {
		wantError(t, what, truth.Check(changed(change)), api.OK)
	}
}

// P6.1, T2, T4, T5, T9, T12, Errors: in a valid stone a wrong cell or way is ErrArg, a wrong lead ErrLead, a wrong tree ErrTree; nothing else minds.
func TestArgumentErrors(t *testing.T) {
	own := map[string]api.Errno{"Mass": api.ErrArg, "With": api.ErrLead, "Balanced": api.ErrLead, "Reach": api.ErrArg, "Apart": api.ErrNone, "CheckTree": api.ErrLimit}
	wantErrors(t, "wrong arguments", stoneCalls(example(3), -1, nil, api.Point{}, tooMany()), api.OK, own)
	own["CheckTree"], own["Least"], own["Lead"] = api.ErrTree, api.ErrBalance, api.ErrBalance
	delete(own, "Apart")
	wantErrors(t, "nothing balances", stoneCalls(example(1), 4, []int{0}, api.Point{X: 101}, api.Tree{}), api.OK, own)
	for _, cell := range []int{-1, 4, math.MinInt, math.MaxInt} {
		n, e := truth.Mass(example(3), cell)
		wantError(t, "Mass", e, api.ErrArg)
		want(t, "Mass", n, 0)
	}
	for _, lead := range [][]int{nil, {0}, {0, 0, 0}, {-1, 0}, {0, -1}, {4, 0}, {0, 3}, {math.MinInt, math.MaxInt}, make([]int, 9)} {
		p, e := truth.With(example(3), lead)
		wantError(t, "With", e, api.ErrLead)
		want(t, "With", p, api.Point{})
		is, e := truth.Balanced(changed(func(s *api.Stone) { s.Tol = 1000000000000 }), lead)
		wantError(t, "Balanced", e, api.ErrLead)
		want(t, "Balanced", is, false)
	}
	for _, lead := range [][]int{{0, 0}, {3, 2}} {
		_, e := truth.With(example(3), lead)
		wantError(t, "With", e, api.OK)
	}
	for _, way := range []api.Point{{}, {X: 101}, {Y: 101}, {X: 1, Y: -101}, {X: -101, Y: 1}, {X: math.MinInt, Y: math.MinInt}} {
		x, e := truth.Reach(example(3), way)
		wantError(t, "Reach", e, api.ErrArg)
		want(t, "Reach", x, api.Span{})
	}
	for _, way := range []api.Point{{X: 100, Y: 100}, {X: -100, Y: -100}, {Y: -1}} {
		_, e := truth.Reach(example(3), way)
		wantError(t, "Reach", e, api.OK)
	}
}

// P6.1, T6, T7, T8, T11, Errors: of a rich stone Least, Lead, Count and Prove return ErrLimit, also where nothing balances it; all others work.
func TestLimitErrors(t *testing.T) {
	own := map[string]api.Errno{"Least": api.ErrLimit, "Lead": api.ErrLimit, "Count": api.ErrLimit, "Prove": api.ErrLimit}
	for _, x := range []int{1, -1} {
		s := heavy(x, 1, 3, slices.Repeat([]api.Pocket{pocket(x, 1, 255)}, 8)...)
		leaf := api.Tree{Kind: api.TreeApart, Way: api.Point{X: x}}
		wantErrors(t, "a rich stone", stoneCalls(s, 1, make([]int, 8), api.Point{X: 1}, leaf), api.OK, own)
	}
}

// P6.1, T14 to T17, Errors: ErrFace comes ahead of ErrArg; lists of heights, lifts and turns that are none are ErrArg.
func TestGapErrors(t *testing.T) {
	f := example(3).Face
	h := []int{3, 1, -100000, 100000}
	wantErrors(t, "valid arguments", gapCalls(f, h, h, 0, 0, -1000000000), api.OK, nil)
	wantErrors(t, "the greatest arguments", gapCalls(f, h, h, 1000000000, 3, 1000000000), api.OK, nil)
	for _, g := range []api.Face{{}, {Eye: 1, Rings: 1, Sectors: 4, Kinds: make([]int, 3)}, {Eye: 17, Rings: 1, Sectors: 4, Kinds: make([]int, 4)}} {
		wantErrors(t, "a face that is none", gapCalls(g, nil, h, -1, -1, 1<<40), api.ErrFace, nil)
	}
	for _, bad := range [][]int{nil, {0, 0, 0}, {0, 0, 0, 0, 0}, {100001, 0, 0, 0}, {0, 0, 0, -100001}, {0, math.MinInt, math.MaxInt, 0}} {
		wantErrors(t, "a bed that is none", gapCalls(f, bad, h, 1, 1, 1), api.ErrArg, nil)
		wantErrors(t, "a runner that is none", gapCalls(f, h, bad, 1, 1, 1), api.ErrArg, nil)
	}
	for _, lift := range []int{-1, 1000000001, math.MinInt, math.MaxInt} {
		wantErrors(t, "a lift that is none", gapCalls(f, h, h, lift, 1, 1), api.ErrArg, map[string]api.Errno{"Lift": api.OK})
	}
	for _, turn := range []int{-1, 4, math.MinInt, math.MaxInt} {
		wantErrors(t, "a turn that is none", gapCalls(f, h, h, 1, turn, 1), api.OK, map[string]api.Errno{"Gaps": api.ErrArg})
	}
	for _, least := range []int{-1000000001, 1000000001, math.MinInt, math.MaxInt} {
		wantErrors(t, "a number that is none", gapCalls(f, h, h, 1, 1, least), api.OK, map[string]api.Errno{"Lift": api.ErrArg})
	}
}

// P6.1, T18: heights, cells and tols that are none are ErrArg; so is a height that is not asked for.
func TestEdgeErrors(t *testing.T) {
	for _, x := range []struct {
		heights, cells []int
		tol            int
		want           api.Errno
	}{
		{[]int{1000000000, -1000000000}, []int{1}, 1000000000, api.OK},
		{[]int{1000000001, 0}, []int{1}, 0, api.ErrArg},
		{[]int{0, -1000000001}, []int{0}, 0, api.ErrArg},
		{[]int{0, math.MinInt}, []int{0, 1}, 0, api.ErrArg},
		{[]int{0, 0}, nil, 0, api.ErrArg},
		{nil, nil, 0, api.ErrArg},
		{nil, []int{0}, 0, api.ErrArg},
		{[]int{0, 0}, []int{-1}, 0, api.ErrArg},
		{[]int{0, 0}, []int{0, 2}, 0, api.ErrArg},
		{[]int{0, 0}, []int{math.MaxInt}, 0, api.ErrArg},
		{[]int{0, 0}, []int{1, 0, 1}, 0, api.ErrArg},
		{[]int{0, 0}, []int{0}, -1, api.ErrArg},
		{[]int{0, 0}, []int{0}, 1000000001, api.ErrArg},
		{[]int{0, 0}, []int{1, 0}, 0, api.OK},
	} {
		red, e := truth.Red(x.heights, x.cells, x.tol)
		wantError(t, "Red", e, x.want)
		if e != api.OK {
			want(t, "the cells with an error", len(red), 0)
		}
	}
}

// R4: nil and empty lists are the same thing.
func TestEmptyLists(t *testing.T) {
	s := heavy(0, 0, 0)
	s.Pockets = []api.Pocket{}
	wantErrors(t, "empty lists", stoneCalls(s, 0, []int{}, api.Point{X: 1}, api.Tree{Kind: api.TreeSum, Kids: []api.Tree{}}), api.OK, map[string]api.Errno{"Apart": api.ErrNone, "CheckTree": api.ErrTree})
	wantErrors(t, "no lists", stoneCalls(heavy(0, 0, 0), 0, nil, api.Point{X: 1}, sumLeaf), api.OK, map[string]api.Errno{"Apart": api.ErrNone, "CheckTree": api.ErrTree})
}

// R7: arguments are not changed, and results are new memory each time.
func TestArgumentsAreKept(t *testing.T) {
	s, lead, tree := example(3), []int{2, 0}, branch(0, 1, apartX, sumLeaf)
	heights, cells := []int{5, 9, 8, 2}, []int{2, 0, 1}
	calls := stoneCalls(s, 1, lead, api.Point{X: 1}, tree)
	for name, f := range gapCalls(s.Face, s.Heights, s.Heights, 5, 1, 1) {
		calls[name] = f
	}
	for range 2 {
		for _, f := range calls {
			f()
		}
	}
	truth.Red(heights, cells, 1)
	same := reflect.DeepEqual(s, example(3)) && reflect.DeepEqual(tree, branch(0, 1, apartX, sumLeaf))
	same = same && slices.Equal(lead, []int{2, 0}) && slices.Equal(heights, []int{5, 9, 8, 2}) && slices.Equal(cells, []int{2, 0, 1})
	want(t, "arguments are kept", same, true)
	a, _ := proved(t, "the example", s)
	for len(a.Kids) > 0 {
		a.Kids[0] = api.Tree{}
		a = a.Kids[1]
	}
	proved(t, "the example again", s)
	l := must[[]int](t, "Lead")(truth.Lead(s))
	l[0] = 7
	l = append(l[:1], 9, 9, 9)
	wantList(t, "Lead again", must[[]int](t, "Lead")(truth.Lead(s)), []int{2, 0})
}
