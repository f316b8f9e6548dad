package history_test

import (
	"math"
	"math/rand"
	"slices"
	"testing"

	"millrind/api"
	"millrind/history"
)

func badFrames() map[string]api.Frame {
	return map[string]api.Frame{
		"no frame":         {},
		"no rings":         {Rings: 0, Sectors: 4, Wide: 2},
		"rings below 0":    {Rings: -1, Sectors: 4, Wide: 2},
		"too many rings":   {Rings: 25, Sectors: 4, Wide: 2},
		"one sector":       {Rings: 2, Sectors: 1, Wide: 1},
		"too many sectors": {Rings: 2, Sectors: 97, Wide: 2},
		"no width":         {Rings: 2, Sectors: 4, Wide: 0},
		"too wide":         {Rings: 2, Sectors: 4, Wide: 5},
		"beyond all":       {Rings: math.MaxInt, Sectors: math.MaxInt, Wide: math.MaxInt},
		"below all":        {Rings: math.MinInt, Sectors: math.MinInt, Wide: math.MinInt},
	}
}

// sample is the set of the chapter's examples, with more notes.
func sample(more ...api.Note) []api.Note {
	return append([]api.Note{
		{House: 1, Num: 1, Clock: 1, Day: 5, Kind: api.NoteHeap, Hard: span(2, 4)},
		{House: 1, Num: 2, Clock: 2, Day: 6, Kind: api.NotePass, Ref: name(1, 1), Turns: 3},
		{House: 1, Num: 3, Clock: 3, Day: 7, Kind: api.NoteStrokes, Ring: 1, Strokes: []int{0, 0, 2}},
	}, more...)
}

// fixPass is the examples' correction of the pass.
func fixPass(day int) api.Note {
	return api.Note{House: 1, Num: 4, Clock: 4, Day: day, Kind: api.NoteCorrect, Ref: name(1, 2), Fix: api.NotePass, Turns: 5}
}

func withdrawal(num, clock int, of api.Name) api.Note {
	return api.Note{House: 1, Num: num, Clock: clock, Kind: api.NoteWithdraw, Ref: of}
}

// manyNotes are as many notes of a heap, from a name of house 1 on; those beyond the last Num are of house 2.
func manyNotes(from, count int) []api.Note {
	var l []api.Note
	for i := from; i < from+count; i++ {
		l = append(l, api.Note{House: 1 + i/400, Num: 1 + i%400, Clock: 1, Kind: api.NoteHeap, Hard: span(1, 2)})
	}
	return l
}

func cloneNotes(l []api.Note) []api.Note {
	var c []api.Note
	for _, n := range l {
		c = append(c, withList(n, slices.Clone(n.Strokes)))
	}
	return c
}

// badSets are lists of notes that are no set, with what is wrong first.
func badSets() map[string]struct {
	l  []api.Note
	e  api.Errno
	at int
} {
	type fault = struct {
		l  []api.Note
		e  api.Errno
		at int
	}
	ill, other := sample(), sample()
	ill[1].Turns = 0
	other[1].Turns = 4
	l := sample(fixPass(6))
	return map[string]fault{
		"too many notes":                {manyNotes(0, 401), api.ErrLimit, 0},
		"too many, none of them a note": {make([]api.Note, 401), api.ErrLimit, 0},
		"no notes":                      {make([]api.Note, 400), api.ErrNote, 0},
		"an ill-formed note":            {ill, api.ErrNote, 1},
		"an ill-formed note at last":    {append(sample(), api.Note{}), api.ErrNote, 3},
		"an ill-formed one of one name": {[]api.Note{l[0], l[1], ill[1]}, api.ErrNote, 2},
		"one note twice":                {[]api.Note{l[0], l[0], l[1]}, api.ErrFork, 1},
		"two notes of one name":         {[]api.Note{l[0], l[1], other[1], l[2]}, api.ErrFork, 2},
		"out of order":                  {[]api.Note{l[0], l[2], l[1]}, api.ErrArg, 2},
		"out of order at first":         {[]api.Note{l[1], l[0], ill[1]}, api.ErrArg, 1},
		"an ill-formed one behind":      {[]api.Note{l[0], l[0], ill[1]}, api.ErrFork, 1},
		"houses out of order":           {[]api.Note{{House: 2, Num: 1, Clock: 1, Kind: 1, Hard: span(1, 1)}, l[1]}, api.ErrArg, 1},
		"one name, but not behind it":   {[]api.Note{l[0], l[1], l[0]}, api.ErrArg, 2},
	}
}

// P8.1, H4: the first thing that is wrong with a set, and where.
func TestCheckSet(t *testing.T) {
	for what, x := range badSets() {
		e, at := history.CheckSet(frame(), x.l)
		wantError(t, what, e, x.e)
		want(t, what, at, x.at)
		for which, f := range badFrames() {
			e, at := history.CheckSet(f, x.l)
			wantError(t, what+", "+which, e, api.ErrArg)
			want(t, what+", "+which, at, 0)
		}
	}
	for what, l := range map[string][]api.Note{
		"no notes": nil, "an empty list": {}, "the example": sample(), "all notes": manyNotes(0, 400), "two houses": manyNotes(200, 400),
	} {
		e, at := history.CheckSet(frame(), l)
		wantError(t, what, e, api.OK)
		want(t, what, at, 0)
	}
	eachSet(t, 300, func(rng *rand.Rand, l []api.Note) {
		e, at := history.CheckSet(frame(), l)
		wantError(t, "CheckSet", e, api.OK)
		want(t, "CheckSet", at, 0)
	})
}

// modelMerge goes through all names.
func modelMerge(a, b []api.Note) (l []api.Note, forks []api.Name) {
	for house := 1; house <= 8; house++ {
		for num := 1; num <= 400; num++ {
			x, inA := find(a, name(house, num))
			y, inB := find(b, name(house, num))
			switch {
			case inA && inB && !same(x, y):
				forks = append(forks, name(house, num))
			case inA:
				l = append(l, x)
			case inB:
				l = append(l, y)
			}
		}
	}
	return l, forks
}

// part is some of the notes of a set; some of these may be others of their names.
func part(rng *rand.Rand, l []api.Note, others int) []api.Note {
	var p []api.Note
	for _, n := range l {
		if rng.Intn(3) == 0 {
			continue
		}
		if others > 0 && rng.Intn(others) == 0 {
			n = anyNote(rng, n.House, n.Num, 3, []int{1, 2, 3, 4, 5, 6})
		}
		p = append(p, n)
	}
	return p
}

// P8.1, P8.2, H6, H7: a union has all notes of both sets; Fork tells the least name if and only if Merge returns ErrFork.
func TestMergeAndFork(t *testing.T) {
	forked, merged := 0, 0
	eachSet(t, 400, func(rng *rand.Rand, l []api.Note) {
		a, b := part(rng, l, 0), part(rng, l, 20)
		union, forks := modelMerge(a, b)
		got, e := history.Merge(frame(), a, b)
		at, none := history.Fork(frame(), a, b)
		if len(forks) > 0 {
			forked++
			wantError(t, "Merge", e, api.ErrFork)
			want(t, "Merge", got, []api.Note{})
			wantError(t, "Fork", none, api.OK)
			want(t, "Fork", at, forks[0])
			return
		}
		merged++
		wantError(t, "Merge", e, api.OK)
		want(t, "Merge", got, union)
		wantError(t, "Fork", none, api.ErrNone)
		want(t, "Fork", at, api.Name{})
	})
	if forked < 50 || merged < 50 {
		t.Errorf("%d pairs fork, %d do not", forked, merged)
	}
}

// P8.2, P0.7: a union depends neither on which set comes first, nor on which of three are merged first, nor does a second time matter; so there is one register.
func TestUnion(t *testing.T) {
	merge := func(a, b []api.Note) []api.Note { return must[[]api.Note](t, "Merge")(history.Merge(frame(), a, b)) }
	eachSet(t, 300, func(rng *rand.Rand, l []api.Note) {
		a, b, c := part(rng, l, 0), part(rng, l, 0), part(rng, l, 0)
		want(t, "b and a", merge(b, a), merge(a, b))
		want(t, "a and a", merge(a, a), a)
		want(t, "a and nothing", merge(a, nil), a)
		want(t, "nothing and a", merge([]api.Note{}, a), a)
		all := merge(merge(a, b), c)
		want(t, "b and c first", merge(a, merge(b, c)), all)
		want(t, "a once more", merge(all, a), all)
		want(t, "one register", fold(t, merge(c, merge(b, a))), fold(t, all))
	})
	eachSet(t, 300, func(rng *rand.Rand, l []api.Note) {
		a, b := part(rng, l, 0), part(rng, l, 9)
		_, e := history.Merge(frame(), a, b)
		_, f := history.Merge(frame(), b, a)
		wantError(t, "b and a", f, e)
		x, _ := history.Fork(frame(), a, b)
		y, _ := history.Fork(frame(), b, a)
		want(t, "Fork of b and a", y, x)
	})
}

// P8.1, H7: notes that differ in any field fork; a nil list and an empty one are the same.
func TestForks(t *testing.T) {
	fork := func(a, b api.Note) bool {
		x, e := history.Fork(frame(), []api.Note{a}, []api.Note{b})
		if e == api.OK {
			want(t, "Fork", x, name(a.House, a.Num))
		}
		return e == api.OK
	}
	for what, n := range examples() {
		want(t, what, fork(n, n), false)
		for field, change := range map[string]func(n *api.Note){
			"Clock": func(n *api.Note) { n.Clock++ }, "Day": func(n *api.Note) { n.Day++ },
			"Stone": func(n *api.Note) { n.Stone = 1 - n.Stone }, "Turns": func(n *api.Note) { n.Turns++ },
			"Hard.Lo": func(n *api.Note) { n.Hard.Lo-- }, "Hard.Hi": func(n *api.Note) { n.Hard.Hi++ },
			"Diff.Lo": func(n *api.Note) { n.Diff.Lo-- }, "Diff.Hi": func(n *api.Note) { n.Diff.Hi++ },
			"A": func(n *api.Note) { n.A-- }, "B": func(n *api.Note) { n.B-- }, "Ring": func(n *api.Note) { n.Ring-- },
			"a stroke": func(n *api.Note) { n.Strokes = []int{0, 1, 2} }, "fewer strokes": func(n *api.Note) { n.Strokes = []int{0, 0} },
			"Ref.House": func(n *api.Note) { n.Ref.House ^= 2 }, "Ref.Num": func(n *api.Note) { n.Ref.Num ^= 2 },
		} {
			x := n
			if change(&x); modelWellFormed(frame(), x) {
				want(t, what+" with another "+field, fork(n, x), true)
			}
		}
		if len(n.Strokes) == 0 {
			want(t, what+" with an empty list", fork(n, withList(n, []int{})), false)
		}
	}
	a, b := withdrawal(7, 9, name(1, 1)), examples()["a fixed heap"]
	b.House, b.Day = 1, 0
	want(t, "a correction and a withdrawal", fork(a, b), true)
}

// P8.1, H6: a union has at most 400 notes; a fork comes ahead of that.
func TestMergeLimit(t *testing.T) {
	a, b := manyNotes(0, 300), manyNotes(200, 200)
	l := must[[]api.Note](t, "Merge")(history.Merge(frame(), a, b))
	want(t, "400 notes", l, manyNotes(0, 400))
	b = manyNotes(200, 201)
	l, e := history.Merge(frame(), a, b)
	wantError(t, "401 notes", e, api.ErrLimit)
	want(t, "401 notes", len(l), 0)
	b[99].Clock = 2
	_, e = history.Merge(frame(), a, b)
	wantError(t, "401 notes that fork", e, api.ErrFork)
	x, e := history.Fork(frame(), a, b)
	wantError(t, "Fork", e, api.OK)
	want(t, "Fork", x, name(1, 300))
}

// P8.1, H11: the chain of a note, by clock, house and num.
func TestChain(t *testing.T) {
	chain := func(l []api.Note, x api.Name) []api.Name {
		return must[[]api.Name](t, "Chain")(history.Chain(frame(), l, x))
	}
	l := sample(fixPass(6), withdrawal(5, 9, name(1, 2)), withdrawal(6, 3, name(1, 2)), withdrawal(7, 3, name(1, 1)))
	second := withdrawal(1, 3, name(1, 2))
	second.House = 2
	l = append(l, second)
	want(t, "of the pass", chain(l, name(1, 2)), []api.Name{name(1, 6), name(2, 1), name(1, 4), name(1, 5)})
	want(t, "of the heap", chain(l, name(1, 1)), []api.Name{name(1, 7)})
	want(t, "of the strokes", chain(l, name(1, 3)), []api.Name{})
	never := fixPass(6)
	never.Ref = name(1, 3)
	want(t, "one that can never be a judge", chain(sample(never), name(1, 3)), []api.Name{name(1, 4)})
	for what, x := range map[string]api.Name{
		"a correction": name(1, 4), "a withdrawal": name(1, 5), "no note": name(1, 8), "another house": name(3, 1), "no name": {}, "a name below all": name(math.MinInt, math.MinInt),
	} {
		got, e := history.Chain(frame(), append(cloneNotes(l), api.Note{House: 3, Num: 9, Clock: 1, Kind: 6, Ref: name(1, 4)}), x)
		wantError(t, what, e, api.ErrNone)
		want(t, what, len(got), 0)
	}
	eachSet(t, 300, func(rng *rand.Rand, l []api.Note) {
		for _, n := range l {
			if isChange(n) {
				continue
			}
			var changes []api.Note
			for _, x := range l {
				if isChange(x) && x.Ref == name(n.House, n.Num) {
					changes = append(changes, x)
				}
			}
			slices.SortFunc(changes, func(a, b api.Note) int { return slices.Compare(clockOf(a), clockOf(b)) })
			var names []api.Name
			for _, x := range changes {
				names = append(names, name(x.House, x.Num))
			}
			want(t, "Chain", chain(l, name(n.House, n.Num)), names)
		}
	})
}
