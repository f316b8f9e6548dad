package books_test

import (
	"math/rand"
	"reflect"
	"slices"
	"testing"

	"millrind/api"
	"millrind/books"
	"millrind/crossing"
	"millrind/dressing"
	"millrind/gears"
	"millrind/history"
	"millrind/tallies"
	"millrind/truth"
	"millrind/wear"
)

// wantTrue asks the layers below whether what a book says is true, wherever it is from.
func wantTrue(t *testing.T, x api.Book) {
	t.Helper()
	want(t, "the pair is free", must[bool](t, "Free")(crossing.Free(x.Base.Pair)), true)
	cuts := must[int](t, "Cuts")(books.Cuts(x))
	for _, s := range must[[]api.State](t, "Entries")(crossing.Entries(x.Base.Pair)) {
		steps := must[api.Span](t, "Steps")(crossing.Steps(x.Base.Pair, s))
		number := must[int](t, "Number")(crossing.Number(x.Base.Pair, s))
		want(t, "steps", steps.Hi <= x.Rank[number], true)
		want(t, "cuts", must[api.Span](t, "Cuts")(crossing.Cuts(x.Base.Pair, s)).Lo >= cuts, true)
	}
	for stone, side := range x.Sides {
		heights, e := wear.Heights(side.Story, len(side.Story.Steps))
		want(t, "a world lives", e == api.OK, len(side.Worlds) > 0)
		want(t, "heights", leftOf(x, stone), heights)
	}
	if x.Trouble == api.ErrClash {
		return
	}
	loads := make([]int, len(x.Lines))
	for i, line := range x.Lines {
		expected := modelLine(x.Base, leftOf(x, line.Stone), line.Stone, line.Ring)
		want(t, "the state and the cell", []int{line.State, line.Cell}, []int{expected.State, expected.Cell})
		if line.State == api.LineWork {
			want(t, "a plan", dressing.Does(expected.Task, line.Plan), api.OK)
			loads[i] = must[int](t, "Total")(dressing.Total(line.Plan))
			want(t, "the fewest strokes", loads[i], must[int](t, "Fewest")(dressing.Fewest(expected.Task)))
		}
	}
	shifts, e := dressing.Shifts(x.Base.Crew, loads)
	want(t, "the fewest shifts", []any{x.Shifts, x.Trouble == api.ErrReach}, []any{shifts, e == api.ErrReach})
	wantLeast(t, x)
}

// wantLeast asks whether the lead of a book balances the runner, with the least sum, or none does.
func wantLeast(t *testing.T, x api.Book) {
	t.Helper()
	s, e := history.StoneOf(x.Base, x.Weights)
	if e != api.OK {
		want(t, "no lead", []any{len(x.Lead), x.Trouble == api.ErrStone || x.Trouble == api.ErrReach}, []any{0, true})
		return
	}
	sum, e := truth.Least(s)
	if e == api.ErrBalance {
		want(t, "no lead", []any{len(x.Lead), x.Trouble == api.ErrBalance || x.Trouble == api.ErrReach}, []any{0, true})
		return
	}
	for _, n := range x.Lead {
		sum -= n
	}
	want(t, "the least lead", sum, 0)
	want(t, "balance", must[bool](t, "Balanced")(truth.Balanced(s, x.Lead)), true)
}

// spoil changes a number or a list of a book, anywhere but in its base and its stories.
func spoil(rng *rand.Rand, x *api.Book) {
	v := reflect.ValueOf(x).Elem()
	part := v.Field(fromTo(rng, 1, v.NumField()-1))
	if rng.Intn(2) == 0 {
		side := v.FieldByName("Sides").Index(rng.Intn(2))
		part = side.Field(fromTo(rng, 1, 3))
	}
	if l := partsOf(part, reflect.Slice); len(l) > 0 && rng.Intn(5) == 0 {
		list := l[rng.Intn(len(l))]
		if n := list.Len(); n > 0 {
			list.Set(list.Slice(0, n-1))
		}
		return
	}
	l := partsOf(part, reflect.Int, reflect.Bool)
	if len(l) == 0 {
		return
	}
	switch at := l[rng.Intn(len(l))]; at.Kind() {
	case reflect.Bool:
		at.SetBool(!at.Bool())
	case reflect.Int:
		at.SetInt(at.Int() + int64(some(rng, -1, 1, 1, 2, -3)))
	}
}

// P10.3, P0.8: whoever made a book in which nothing is wrong, what it says is true.
func TestBooksAlone(t *testing.T) {
	right, wrong := 0, 0
	eachMill(t, 250, func(rng *rand.Rand, m mill) {
		r := fold(t, m.base, m.notes)
		wantTrue(t, build(t, m.base, r))
		for range 40 {
			x := build(t, m.base, r)
			before := text(x)
			for range fromTo(rng, 1, 2) {
				spoil(rng, &x)
			}
			if len(books.Check(x)) > 0 {
				wrong++
				continue
			}
			wantTrue(t, x)
			if text(x) != before {
				right++
			}
		}
	})
	if right < 200 || wrong < 5000 {
		t.Errorf("of the books that were changed nothing is wrong with %d, and something with %d", right, wrong)
	}
}

// P10.4, P0.6: whatever the heights are, the plans bring each cell of their rings within its aim; and what is told when they are done is what Behind says.
func TestTheWorkDoesIt(t *testing.T) {
	planned := 0
	eachMill(t, 300, func(rng *rand.Rand, m mill) {
		x := build(t, m.base, fold(t, m.base, m.notes))
		if x.Trouble == api.ErrClash {
			return
		}
		sectors := m.base.Pair.Bed.Sectors
		notes := must[[]api.Note](t, "Strokes")(books.Strokes(x))
		all := slices.Clone(m.notes)
		for _, n := range notes {
			n.House, n.Num, n.Clock, n.Day = 1, len(all)+1, len(all)+1, 99
			all = append(all, n)
		}
		r := fold(t, m.base, all)
		for stone := range 2 {
			behind := must[[]api.Span](t, "Behind")(books.Behind(x, stone))
			want(t, "the heights told", must[[]api.Span](t, "Heights")(books.Heights(m.base, r, stone)), behind)
			for cell, h := range behind {
				if _, e := books.PlanOf(x, stone, cell/sectors); e == api.OK {
					planned++
					aim := m.base.Aim[stone][cell]
					want(t, "a cell is within its aim", aim.Lo <= h.Lo && h.Hi <= aim.Hi, true)
				}
			}
		}
		for range 5 {
			l := newLife(rng, m.base)
			for stone := range 2 {
				for cell, h := range leftOf(x, stone) {
					l.heights[stone][cell] = fromTo(rng, h.Lo, h.Hi)
				}
			}
			for _, n := range notes {
				l.do(n)
			}
			wantWithinAims(t, x, l)
		}
	})
	if planned < 500 {
		t.Errorf("only %d cells are planned for", planned)
	}
}

// wantWithinAims asks whether the heights of a life are within the aims of all rings with a plan.
func wantWithinAims(t *testing.T, x api.Book, l *life) {
	t.Helper()
	for _, line := range x.Lines {
		if line.State != api.LineWork {
			continue
		}
		for sector := range l.frame.Sectors {
			cell := line.Ring*l.frame.Sectors + sector
			h, aim := l.heights[line.Stone][cell], x.Base.Aim[line.Stone][cell]
			if h < aim.Lo || h > aim.Hi {
				t.Errorf("the cell %d of the stone %d is %d high, and its aim is %v", cell, line.Stone, h, aim)
			}
		}
	}
}

// P0.4: what truly happened is within what is told, if nothing was misread.
func TestLifeIsTold(t *testing.T) {
	told := 0
	eachMill(t, 300, func(rng *rand.Rand, m mill) {
		r := fold(t, m.base, m.notes)
		x := build(t, m.base, r)
		if n := m.notes[len(m.notes)-1]; x.Trouble == api.ErrClash {
			want(t, "what clashes was misread", n.Kind, api.NoteReading)
			return
		}
		for stone := range 2 {
			for cell, h := range leftOf(x, stone) {
				is := m.life.heights[stone][cell]
				if n := m.notes[len(m.notes)-1]; n.Kind != api.NoteReading && (is < h.Lo || is > h.Hi) {
					t.Errorf("the cell %d of the stone %d is %d high, and %v is told", cell, stone, is, h)
				}
				told++
			}
		}
	})
	if told < 1000 {
		t.Errorf("only %d heights are told", told)
	}
}

// P10.5: with a further reading no height becomes wider, as long as it does not clash.
func TestMoreIsKnown(t *testing.T) {
	narrower, clashes := 0, 0
	eachMill(t, 300, func(rng *rand.Rand, m mill) {
		x := build(t, m.base, fold(t, m.base, m.notes))
		if x.Trouble == api.ErrClash {
			return
		}
		n := m.life.read(some(rng, 0, 0, 1, -2))
		n.House, n.Num, n.Clock, n.Day = 2, 1, 50, rng.Intn(10)
		all := append(slices.Clone(m.notes), n)
		y := build(t, m.base, fold(t, m.base, all))
		if y.Trouble == api.ErrClash {
			clashes++
			return
		}
		for stone := range 2 {
			heights := leftOf(y, stone)
			for cell, h := range leftOf(x, stone) {
				want(t, "a height is not wider", h.Lo <= heights[cell].Lo && heights[cell].Hi <= h.Hi, true)
				if heights[cell] != h {
					narrower++
				}
			}
		}
	})
	if narrower < 60 || clashes < 10 {
		t.Errorf("%d heights are narrower, and %d readings clash", narrower, clashes)
	}
}

// trade is a world of houses that note what happens to the stones of a base.
type trade struct {
	t    *testing.T
	life *life
	w    *tallies.World
}

func newTrade(t *testing.T, rng *rand.Rand) *trade {
	l := newLife(rng, anyBase(rng))
	return &trade{t, l, must[*tallies.World](t, "NewWorld")(tallies.NewWorld(l.frame, l.base.Houses))}
}

func (x *trade) house() int { return fromTo(x.life.rng, 1, x.life.base.Houses) }

func (x *trade) notes(house int) []api.Note {
	x.t.Helper()
	return must[[]api.Note](x.t, "Notes")(x.w.Notes(house))
}

// act lets anything happen: houses write down what they do, correct and withdraw, send, hear, lose and forget.
func (x *trade) act() {
	rng := x.life.rng
	a := api.Act{House: x.house(), To: x.house(), Index: rng.Intn(4)}
	switch k := rng.Intn(16); {
	case k < 6:
		a.Kind, a.Note = api.ActDo, x.next(a.House)
	case k < 7:
		a.Kind = api.ActSync
	case k < 10:
		a.Kind = api.ActAsk
	case k < 14:
		a.Kind = api.ActDeliver
	case k < 15:
		a.Kind = some(rng, api.ActLose, api.ActDouble)
	default:
		a.Kind, a.Index = api.ActCrash, -1
	}
	x.w.Step(a)
}

// next is a note that a house may try to do.
func (x *trade) next(house int) api.Note {
	rng := x.life.rng
	ref, known := name(x.house(), fromTo(rng, 1, 5)), x.notes(house)
	for _, n := range known {
		if n.Kind == api.NoteHeap && rng.Intn(2) == 0 {
			ref = name(n.House, n.Num)
		}
	}
	n := x.life.any(fromTo(rng, 1, 4), ref)
	if n.Kind == api.NoteReading { // of the stones at first: what was done since is not reckoned with
		n.Diff = span(n.Diff.Lo-rng.Intn(40), n.Diff.Hi+rng.Intn(9))
	}
	if rng.Intn(6) == 0 && len(known) > 0 {
		// Only of notes that there are: the strokes of the book must not be withdrawn ahead of their time.
		of := known[rng.Intn(len(known))]
		n.Fix, n.Kind, n.Ref = n.Kind, api.NoteCorrect, name(of.House, of.Num)
		if rng.Intn(2) == 0 {
			n = api.Note{Kind: api.NoteWithdraw, Ref: n.Ref}
		}
	}
	n.Day = rng.Intn(4)
	return n
}

// wantPositions asks of each position of the runner that the gears allow whether each grain leaves, cut as often as the book says.
func wantPositions(t *testing.T, x api.Book) {
	t.Helper()
	p := x.Base.Pair
	cuts := must[int](t, "Cuts")(books.Cuts(x))
	sectors := must[[]int](t, "All")(gears.All(x.Base.Train, p.Bed.Sectors))
	want(t, "the runner may stand somewhere", len(sectors) > 0, true)
	for _, turn := range sectors {
		for sector := range p.Bed.Sectors {
			s := api.State{Sector: sector, Turn: turn}
			want(t, "a grain leaves", must[bool](t, "Trapped")(crossing.Trapped(p, s)), false)
			want(t, "a grain is cut", must[api.Span](t, "Cuts")(crossing.Cuts(p, s)).Lo >= cuts, true)
		}
	}
}

// P10.6, P0.3, P0.7: whatever houses do, behind settling all have one book; with it no grain is trapped, and its strokes do what they have to, whatever the heights are.
func TestTheWhole(t *testing.T) {
	built, worked, clashes := 0, 0, 0
	for seed := range 400 {
		rng := rand.New(rand.NewSource(int64(seed)))
		x := newTrade(t, rng)
		for range 40 {
			x.act()
		}
		want(t, "Settle", x.w.Settle(), api.OK)
		r := fold(t, x.life.base, x.notes(1))
		book, e := books.Build(x.life.base, r)
		for house := 2; house <= x.life.base.Houses; house++ {
			other := fold(t, x.life.base, x.notes(house))
			want(t, "the register", other, r)
			y, f := books.Build(x.life.base, other)
			want(t, "the book", y, book)
			want(t, "the error", f, e)
		}
		if e != api.OK {
			want(t, "only what is large has no book", e, api.ErrLimit)
			continue
		}
		built++
		wantFaults(t, "Check", book)
		wantTrue(t, book)
		wantPositions(t, book)
		if book.Trouble == api.ErrClash {
			clashes++
			continue
		}
		worked += x.work(book)
		if t.Failed() {
			t.Fatalf("the trade is %d", seed)
		}
	}
	if built < 150 || worked < 150 || clashes < 10 {
		t.Errorf("%d books, %d rings and %d clashes", built, worked, clashes)
	}
}

// work lets houses do the strokes that are handed out, and returns for how many rings there were some.
func (x *trade) work(book api.Book) int {
	x.t.Helper()
	l := newLife(x.life.rng, x.life.base)
	for stone := range 2 {
		for cell, h := range leftOf(book, stone) {
			l.heights[stone][cell] = fromTo(l.rng, h.Lo, h.Hi)
		}
	}
	notes := must[[]api.Note](x.t, "Strokes")(books.Strokes(book))
	for _, n := range notes {
		n.Day = 99
		want(x.t, "a house does the strokes", x.w.Step(api.Act{Kind: api.ActDo, House: x.house(), Note: n}), api.OK)
		l.do(n)
	}
	wantWithinAims(x.t, book, l)
	want(x.t, "Settle", x.w.Settle(), api.OK)
	r := fold(x.t, x.life.base, x.notes(1))
	for stone := range 2 {
		heights, e := books.Heights(x.life.base, r, stone)
		if e != api.ErrLimit { // the strokes are further steps
			want(x.t, "the heights then", heights, must[[]api.Span](x.t, "Behind")(books.Behind(book, stone)))
		}
	}
	return len(notes)
}

// P0.2, P10.2: turning both faces of a pair changes nothing but the names of the sectors.
func TestTurnedBooks(t *testing.T) {
	eachMill(t, 60, func(rng *rand.Rand, m mill) {
		b := m.base
		sectors := b.Pair.Bed.Sectors
		by := rng.Intn(sectors)
		turned := func(cell int) int { return cell - cell%sectors + (cell+by)%sectors }
		c := b
		for _, f := range []*api.Face{&c.Pair.Bed, &c.Pair.Runner} {
			kinds := slices.Clone(f.Kinds)
			for cell, kind := range f.Kinds {
				kinds[turned(cell)] = kind
			}
			f.Kinds = kinds
		}
		x, y := build(t, b, api.Register{}), build(t, c, api.Register{})
		want(t, "cuts", must[int](t, "Cuts")(books.Cuts(y)), must[int](t, "Cuts")(books.Cuts(x)))
		want(t, "ranks", slices.Max(y.Rank), slices.Max(x.Rank))
		want(t, "lines", y.Lines, x.Lines)
	})
}
