package books_test

import (
	"math"
	"math/rand"
	"reflect"
	"slices"
	"testing"

	"millrind/api"
	"millrind/books"
)

// P10.1, B7: the first Told of a stone with a cell.
func TestHeight(t *testing.T) {
	x := build(t, aBase(), known())
	want(t, "of the bed", must[api.Span](t, "Height")(books.Height(x, 0, 0)), span(11, 12))
	want(t, "of the runner", must[api.Span](t, "Height")(books.Height(x, 1, 0)), span(10, 12))
	for _, cell := range []int{-1, 2, math.MaxInt, math.MinInt} {
		wantError[api.Span](t, "no cell", api.ErrNone)(books.Height(x, 1, cell))
	}
	for _, stone := range []int{-1, 2, math.MaxInt, math.MinInt} {
		wantError[api.Span](t, "no stone", api.ErrArg)(books.Height(x, stone, 0))
		wantError[api.Span](t, "no stone and no cell", api.ErrArg)(books.Height(x, stone, -1))
	}
	x.Sides[1].Told = []api.Told{{Cell: -7, Height: span(9, 1)}, {Cell: 3}, {Cell: 3, Height: span(1, 1)}}
	want(t, "any cell", must[api.Span](t, "Height")(books.Height(x, 1, -7)), span(9, 1))
	want(t, "the first one", must[api.Span](t, "Height")(books.Height(x, 1, 3)), api.Span{})
	wantError[api.Span](t, "a clash", api.ErrNone)(books.Height(build(t, aBase(), clashing(0)), 0, 0))
}

// P10.1, B8: the plan of the first line with work of a ring.
func TestPlanOf(t *testing.T) {
	x := build(t, linesBase(), api.Register{})
	want(t, "of the first ring", must[[]int](t, "PlanOf")(books.PlanOf(x, 0, 0)), []int{0, 3})
	want(t, "of the last ring", must[[]int](t, "PlanOf")(books.PlanOf(x, 1, 1)), []int{0, 0})
	wantError[[]int](t, "of a ring that no strokes do", api.ErrNone)(books.PlanOf(x, 0, 1))
	wantError[[]int](t, "of a vague ring", api.ErrNone)(books.PlanOf(x, 1, 0))
	for _, ring := range []int{-1, 2, math.MaxInt} {
		wantError[[]int](t, "of no ring", api.ErrNone)(books.PlanOf(x, 0, ring))
		wantError[[]int](t, "of no stone", api.ErrArg)(books.PlanOf(x, 2, ring))
	}
	wantError[[]int](t, "of no stone", api.ErrArg)(books.PlanOf(x, -1, 0))
	x.Lines = []api.Line{
		{Ring: 9, State: api.LineNever, Plan: []int{1}}, {Stone: 1, Ring: 9, State: api.LineWork, Plan: []int{2}},
		{Ring: 9, State: api.LineWork, Plan: []int{-3}}, {Ring: 9, State: api.LineWork, Plan: []int{4}},
	}
	plan := must[[]int](t, "PlanOf")(books.PlanOf(x, 0, 9))
	want(t, "the first one", plan, []int{-3})
	plan[0] = 7
	want(t, "the book", x.Lines[2].Plan, []int{-3})
}

// P10.1, B9: what a dresser makes.
func TestWorkOf(t *testing.T) {
	x := build(t, aBase(), known())
	work := must[[]int](t, "WorkOf")(books.WorkOf(x, 0))
	want(t, "of the first", work, []int{2, 2})
	work[0] = 7
	want(t, "the book", x.Work, [][]int{{2, 2}})
	for _, dresser := range []int{-1, 1, math.MaxInt, math.MinInt} {
		wantError[[]int](t, "of none", api.ErrNone)(books.WorkOf(x, dresser))
	}
	x.Work = append(x.Work, nil)
	want(t, "of an idle one", must[[]int](t, "WorkOf")(books.WorkOf(x, 1)), []int{})
}

// P10.1, B10: what is left of each height behind the strokes of the plans.
func TestBehind(t *testing.T) {
	x := build(t, aBase(), known())
	want(t, "the bed", must[[]api.Span](t, "Behind")(books.Behind(x, 0)), []api.Span{span(7, 8), span(10, 10)})
	want(t, "the runner", must[[]api.Span](t, "Behind")(books.Behind(x, 1)), []api.Span{span(6, 8), span(10, 10)})
	b := linesBase()
	b.Deep = span(2, 3)
	b.Aim[0][1] = span(0, 4)
	x = build(t, b, api.Register{})
	// The ring 0 of the bed has the strokes 0, 3; the ring 1 has no plan.
	want(t, "two rings", must[[]api.Span](t, "Behind")(books.Behind(x, 0)), []api.Span{span(10, 10), span(0, 4), span(1, 4), span(9, 9), span(30, 30), span(9, 9)})
	want(t, "a vague ring", must[[]api.Span](t, "Behind")(books.Behind(x, 1)), leftOf(x, 1))
	want(t, "a clash", must[[]api.Span](t, "Behind")(books.Behind(build(t, aBase(), clashing(0)), 0)), []api.Span{})
}

// leftOf is what is left of each height if nothing is done.
func leftOf(x api.Book, stone int) []api.Span {
	var l []api.Span
	for _, told := range x.Sides[stone].Told {
		l = append(l, told.Height)
	}
	return l
}

// ownBook is a book that somebody made: cells in any order, also twice, and two lines for a ring.
func ownBook() api.Book {
	x := api.Book{}
	x.Base.Pair.Bed.Sectors, x.Base.Deep = 3, span(1, 2)
	for _, cell := range []int{4, 0, 4, 300, 5} {
		x.Sides[1].Told = append(x.Sides[1].Told, api.Told{Cell: cell, Height: span(10, 20)})
	}
	two := api.Task{Wide: 1, Need: make([]api.Span, 2)}
	three := api.Task{Wide: 2, Need: make([]api.Span, 3)}
	x.Lines = []api.Line{
		{Stone: 1, Ring: 0, State: api.LineWork, Task: two, Plan: []int{1, 9}},
		{Stone: 1, Ring: 1, State: api.LineNever, Task: three, Plan: []int{50, 50}},
		{Stone: 0, Ring: 1, State: api.LineWork, Task: three, Plan: []int{50, 50}},
		{Stone: 1, Ring: 1, State: api.LineWork, Task: three, Plan: []int{2, 3}},
		{Stone: 1, Ring: 1, State: api.LineWork, Task: three, Plan: []int{0, 1}},
		{Stone: 1, Ring: 2, State: api.LineWork},
	}
	return x
}

// P10.1, B10: lines add up, and those of rings of which nothing is told are not looked at.
func TestBehindOwnBook(t *testing.T) {
	x := ownBook()
	want(t, "Behind", must[[]api.Span](t, "Behind")(books.Behind(x, 1)), []api.Span{span(-2, 14), span(8, 19), span(-2, 14), span(10, 20), span(2, 16)})
	want(t, "the other stone", must[[]api.Span](t, "Behind")(books.Behind(x, 0)), []api.Span{})
	want(t, "the book", text(x), text(ownBook()))
}

// P10.1, B10: the errors of Behind, in their order.
func TestBehindErrors(t *testing.T) {
	wide := func(x *api.Book) { x.Sides[1].Told[0].Height = span(1, 0) }
	for what, c := range map[string]struct {
		do func(x *api.Book)
		e  api.Errno
	}{
		"no sectors":                    {func(x *api.Book) { x.Base.Pair.Bed.Sectors = 0 }, api.ErrBook},
		"sectors below 0, nothing told": {func(x *api.Book) { x.Base.Pair.Bed.Sectors = -1; x.Sides[1].Told = nil }, api.ErrBook},
		"a cell below 0":                {func(x *api.Book) { x.Sides[1].Told[4].Cell = -1 }, api.ErrBook},
		"a cell below all":              {func(x *api.Book) { x.Sides[1].Told[1].Cell = math.MinInt }, api.ErrBook},
		"a plan that is none":           {func(x *api.Book) { x.Lines[3].Plan = []int{2} }, api.ErrBook},
		"a task that is none":           {func(x *api.Book) { x.Lines[4].Task.Wide = 0 }, api.ErrBook},
		"a cell beyond the task":        {func(x *api.Book) { x.Sides[1].Told[1].Cell = 2 }, api.ErrBook},
		"a cell beyond one of two":      {func(x *api.Book) { x.Lines[4].Task.Need = x.Lines[4].Task.Need[:2]; x.Lines[4].Plan = []int{1} }, api.ErrBook},
		"a height that is none":         {wide, api.ErrArg},
		"a height too great":            {func(x *api.Book) { x.Sides[1].Told[3].Height.Hi = 1000000001 }, api.ErrArg},
		"a depth that is none":          {func(x *api.Book) { x.Base.Deep.Lo = 0 }, api.ErrArg},
		"too many strokes":              {func(x *api.Book) { x.Lines[3].Plan, x.Lines[4].Plan = []int{100000, 0}, []int{0, 1} }, api.ErrArg},
		"a height, and a plan behind":   {func(x *api.Book) { wide(x); x.Sides[1].Told[1].Cell = 2 }, api.ErrBook},
		"a ring of which nothing is told, with a plan that is none": {func(x *api.Book) { x.Lines[5].Ring = 99 }, api.OK},
		"a ring of which something is told, likewise":               {func(x *api.Book) { x.Lines[5].Ring = 100 }, api.ErrBook},
		"a ring below 0, likewise":                                  {func(x *api.Book) { x.Lines[5].Ring = -1 }, api.OK},
		"a cell beyond all":                                         {func(x *api.Book) { x.Sides[1].Told[3].Cell = math.MaxInt }, api.OK},
		"sectors beyond all":                                        {func(x *api.Book) { x.Base.Pair.Bed.Sectors = math.MaxInt }, api.ErrBook},
		"as many strokes as may be":                                 {func(x *api.Book) { x.Lines[3].Plan, x.Lines[4].Plan = []int{100000, 0}, []int{0, 0} }, api.OK},
	} {
		x := ownBook()
		c.do(&x)
		if c.e == api.OK {
			must[[]api.Span](t, what)(books.Behind(x, 1))
		} else {
			wantError[[]api.Span](t, what, c.e)(books.Behind(x, 1))
		}
		for _, stone := range []int{-1, 2, math.MaxInt} {
			wantError[[]api.Span](t, what+" and no stone", api.ErrArg)(books.Behind(x, stone))
		}
	}
}

// P10.1, B11: a note for each plan with a stroke.
func TestStrokes(t *testing.T) {
	want(t, "of the example", must[[]api.Note](t, "Strokes")(books.Strokes(build(t, aBase(), known()))), []api.Note{
		{Kind: api.NoteStrokes, Strokes: []int{0, 0}}, {Kind: api.NoteStrokes, Stone: 1, Strokes: []int{0, 0}},
	})
	want(t, "of a line without strokes", must[[]api.Note](t, "Strokes")(books.Strokes(build(t, linesBase(), api.Register{}))), []api.Note{
		{Kind: api.NoteStrokes, Strokes: []int{1, 1, 1}},
	})
	want(t, "of a clash", must[[]api.Note](t, "Strokes")(books.Strokes(build(t, aBase(), clashing(1)))), []api.Note{})
	work := func(plan ...int) api.Line {
		return api.Line{Stone: -7, Ring: 99, State: api.LineWork, Cell: 5, Plan: plan}
	}
	strokes := func(plans ...[]int) ([]api.Note, api.Errno) {
		var x api.Book
		for _, plan := range plans {
			x.Lines = append(x.Lines, work(plan...), api.Line{State: api.LineNever, Plan: []int{-1, 300}}, api.Line{Plan: []int{1}})
		}
		return books.Strokes(x)
	}
	want(t, "of any lines", must[[]api.Note](t, "Strokes")(strokes([]int{0, 2, 0, 1}, nil, []int{0, 0}, []int{1})), []api.Note{
		{Kind: api.NoteStrokes, Stone: -7, Ring: 99, Strokes: []int{1, 1, 3}}, {Kind: api.NoteStrokes, Stone: -7, Ring: 99, Strokes: []int{0}},
	})
	l := must[[]api.Note](t, "200 strokes")(strokes([]int{100, 0, 100}))
	want(t, "200 strokes", l[0].Strokes, slices.Concat(make([]int, 100), slices.Repeat([]int{2}, 100)))
	wantError[[]api.Note](t, "201 strokes", api.ErrLimit)(strokes([]int{1}, []int{100, 1, 100}))
	wantError[[]api.Note](t, "strokes beyond all", api.ErrLimit)(strokes([]int{math.MaxInt, math.MaxInt}))
	wantError[[]api.Note](t, "a number below 0", api.ErrBook)(strokes([]int{1, -1}))
	wantError[[]api.Note](t, "nothing but a number below 0", api.ErrBook)(strokes([]int{-1}))
	wantError[[]api.Note](t, "too many, and then a number below 0", api.ErrBook)(strokes([]int{201}, []int{3, math.MinInt}))
}

// P10.1, B12: the least number of cuts of the entries.
func TestCuts(t *testing.T) {
	want(t, "of the example", must[int](t, "Cuts")(books.Cuts(build(t, aBase(), known()))), 1)
	b := plainBase(2, 3)
	b.Pair.Bed.Kinds = []int{0, 0, 0, 1, 0, 0}
	x := build(t, b, api.Register{})
	want(t, "of a furrow", must[int](t, "Cuts")(books.Cuts(x)), 1)
	// Of all states {Turn, Ring, Sector} only those of the ring 0 are entries.
	x.Least = []int{7, 8, 9, -1, -5, 0, 7, 8, 9, 0, 0, 0, 6, 8, 9, 1, 2, 3}
	want(t, "of a table", must[int](t, "Cuts")(books.Cuts(x)), 6)
	for what, do := range map[string]func(x *api.Book){
		"too short a table":     func(x *api.Book) { x.Least = x.Least[:17] },
		"too long a table":      func(x *api.Book) { x.Least = append(x.Least, 9) },
		"no table":              func(x *api.Book) { x.Least = nil },
		"an entry below 0":      func(x *api.Book) { x.Least[14] = -1 },
		"an entry below all":    func(x *api.Book) { x.Least[0] = math.MinInt },
		"a pair that is none":   func(x *api.Book) { x.Base.Pair.Drive = nil },
		"another runner":        func(x *api.Book) { x.Base.Pair.Runner.Eye = 2 },
		"a pair that is large":  func(x *api.Book) { x.Base = plainBase(8, 96); x.Least = make([]int, 8*96*96) },
		"nothing":               func(x *api.Book) { *x = api.Book{} },
		"a pair of other faces": func(x *api.Book) { x.Base = aBase() },
	} {
		y := x
		y.Least = slices.Clone(x.Least)
		y.Base.Pair.Drive = slices.Clone(x.Base.Pair.Drive)
		do(&y)
		wantError[int](t, what, api.ErrBook)(books.Cuts(y))
	}
	x.Base.Pair.Drive[0] = []api.Move{{}}
	want(t, "of a pair that is not free", must[int](t, "Cuts")(books.Cuts(x)), 6)
}

// R1, R7: books of any form are answered, and not changed.
func TestWildBooks(t *testing.T) {
	faults := 0
	for seed := range 300 {
		rng := rand.New(rand.NewSource(int64(seed)))
		x := wildBook(rng)
		if seed%2 == 0 {
			x = build(t, linesBase(), api.Register{})
			for range 9 {
				wildPart(rng, &x)
			}
		}
		if seed%4 == 0 {
			x.Base = linesBase()
		}
		kept := text(x)
		faults += len(books.Check(x))
		for stone := -1; stone < 3; stone++ {
			books.Height(x, stone, rng.Intn(4))
			books.PlanOf(x, stone, rng.Intn(4))
			books.Behind(x, stone)
		}
		books.WorkOf(x, rng.Intn(4))
		books.Strokes(x)
		books.Cuts(x)
		books.Encode(x)
		books.Build(x.Base, api.Register{Heaps: []api.Event{{Ref: name(rng.Intn(9), 1)}}})
		want(t, "the book", text(x), kept)
	}
	if faults < 200 {
		t.Errorf("only %d faults", faults)
	}
}

// wildPart makes a part of a book wild.
func wildPart(rng *rand.Rand, x *api.Book) {
	wild := reflect.ValueOf(wildBook(rng))
	v := reflect.ValueOf(x).Elem()
	i := fromTo(rng, 1, v.NumField()-1)
	v.Field(i).Set(wild.Field(i))
}
