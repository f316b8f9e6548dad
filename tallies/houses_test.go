package tallies_test

import (
	"math"
	"math/rand"
	"slices"
	"testing"

	"millrind/api"
	"millrind/history"
	"millrind/tallies"
)

func newHouse(t *testing.T, id int) *tallies.House {
	t.Helper()
	return must[*tallies.House](t, "NewHouse")(tallies.NewHouse(frame(), id))
}

func do(t *testing.T, h *tallies.House, n api.Note) api.Note {
	t.Helper()
	return must[api.Note](t, "Do")(h.Do(n))
}

func hear(t *testing.T, h *tallies.House, l ...api.Note) int {
	t.Helper()
	return must[int](t, "Hear")(h.Hear(l))
}

// manyReadings are as many notes of a house, from its first one on.
func manyReadings(house, count int) []api.Note {
	var l []api.Note
	for num := 1; num <= count; num++ {
		l = append(l, by(house, num, num, reading(1)))
	}
	return l
}

// P9.1, T11: who may be a house, and in which frame.
func TestNewHouse(t *testing.T) {
	for _, id := range []int{1, 8} {
		for _, f := range []api.Frame{{Rings: 1, Sectors: 2, Wide: 1}, {Rings: 24, Sectors: 96, Wide: 96}, frame()} {
			h := must[*tallies.House](t, "NewHouse")(tallies.NewHouse(f, id))
			want(t, "notes", h.Notes(), []api.Note{})
			want(t, "counts", h.Counts(), make([]int, 8))
			want(t, "the first note", do(t, h, heap(7)), by(id, 1, 1, heap(7)))
		}
	}
	for _, id := range []int{0, 9, -1, math.MinInt, math.MaxInt} {
		wantError[*tallies.House](t, "a house that is none", api.ErrArg)(tallies.NewHouse(frame(), id))
	}
	for what, f := range badFrames() {
		wantError[*tallies.House](t, what, api.ErrArg)(tallies.NewHouse(f, 1))
	}
	h := must[*tallies.House](t, "NewHouse")(tallies.NewHouse(api.Frame{Rings: 1, Sectors: 4, Wide: 4}, 1))
	wantError[api.Note](t, "a ring of a larger frame", api.ErrNote)(h.Do(strokes(1, 0)))
	n := strokes(1, 0)
	n.Ring = 0
	do(t, h, n)
}

// P9.1, T12, T14: a house gives its notes their house, num and clock, whatever they have there.
func TestDo(t *testing.T) {
	h := newHouse(t, 2)
	want(t, "the first", do(t, h, by(7, 99, 1<<50, heap(3))), by(2, 1, 1, heap(3)))
	want(t, "the second", do(t, h, by(-1, -1, -1, pass(4, 2, 1))), by(2, 2, 2, pass(4, 2, 1)))
	hear(t, h, by(5, 1, 70, heap(1)), by(1, 1, 9, reading(1)), by(5, 2, 60, reading(9)))
	want(t, "behind a late clock", do(t, h, strokes(0, 0, 2)), by(2, 3, 71, strokes(0, 0, 2)))
	want(t, "a withdrawal", do(t, h, withdrawal(0, 5, 1)), by(2, 4, 72, withdrawal(0, 5, 1)))
	want(t, "all", h.Notes(), []api.Note{
		by(1, 1, 9, reading(1)), by(2, 1, 1, heap(3)), by(2, 2, 2, pass(4, 2, 1)), by(2, 3, 71, strokes(0, 0, 2)),
		by(2, 4, 72, withdrawal(0, 5, 1)), by(5, 1, 70, heap(1)), by(5, 2, 60, reading(9)),
	})
	hear(t, h, by(2, 5, 80, reading(2)))
	want(t, "behind a note of its own that it heard", do(t, h, reading(3)), by(2, 6, 81, reading(3)))
}

// P9.1, T12: notes that are not well-formed in their place; an error changes nothing.
func TestDoIllFormed(t *testing.T) {
	h := newHouse(t, 2)
	do(t, h, heap(1))
	long := strokes(1, make([]int, 201)...)
	for what, n := range map[string]api.Note{
		"nothing": {}, "a day below 0": heap(-1), "a day too great": heap(100000), "a kind too great": {Kind: 7}, "a kind below 0": {Kind: -1}, "no strokes": strokes(1), "too many strokes": long,
		"a stroke too far": strokes(1, 3), "a pass of no name": pass(2, 9, 1), "a withdrawal of no name": withdrawal(2, 1, 401), "a heap with turns": {Kind: 1, Hard: span(1, 1), Turns: 1}, "a correction by itself": {Kind: 5, Ref: name(1, 1), Fix: 5},
	} {
		wantError[api.Note](t, what, api.ErrNote)(h.Do(n))
	}
	want(t, "the notes", h.Notes(), []api.Note{by(2, 1, 1, heap(1))})
	want(t, "the next note", do(t, h, heap(0)), by(2, 2, 2, heap(0)))
}

// P9.1, T12: with MaxNotes notes, or behind the last clock, nothing can be done, whatever it is.
func TestDoLimits(t *testing.T) {
	all := map[string]api.Note{"a reading": reading(1), "a withdrawal": withdrawal(1, 1, 1), "nothing": {}, "a pass of no heap": pass(1, 1, 1)}
	h := newHouse(t, 1)
	hear(t, h, manyReadings(3, 399)...)
	do(t, h, reading(1))
	late := newHouse(t, 1)
	hear(t, late, by(2, 1, 1<<40-1, heap(1)))
	want(t, "the last clock", do(t, late, heap(1)), by(1, 1, 1<<40, heap(1)))
	own := newHouse(t, 4)
	for range 400 {
		do(t, own, reading(1))
	}
	want(t, "all nums", own.Counts(), []int{0, 0, 0, 400, 0, 0, 0, 0})
	for what, x := range map[string]*tallies.House{"400 notes": h, "400 notes of its own": own, "the last clock": late} {
		before := text(x.Notes())
		for which, n := range all {
			wantError[api.Note](t, what+", "+which, api.ErrLimit)(x.Do(n))
		}
		want(t, what, text(x.Notes()), before)
	}
}

// manyHeaps lets a house do heaps on the days from 1 on.
func manyHeaps(t *testing.T, h *tallies.House, count int) {
	t.Helper()
	for day := 1; day <= count; day++ {
		do(t, h, heap(day))
	}
}

// P9.1, T12: heaps and passes that would be conflicts are not done; readings, strokes, corrections and withdrawals never are.
func TestDoPlaces(t *testing.T) {
	h := newHouse(t, 2)
	manyHeaps(t, h, 8)
	do(t, h, reading(5))
	do(t, h, withdrawal(0, 2, 3))
	for what, n := range map[string]api.Note{
		"a pass ahead of its heap": pass(1, 2, 2), "a pass of no note": pass(9, 2, 99), "its own name": pass(9, 2, 11), "another house": pass(9, 1, 1), "a pass of a reading": pass(9, 2, 9),
		"a pass of a withdrawal": pass(9, 2, 10), "a pass of a heap that is withdrawn": pass(9, 2, 3),
	} {
		before := text(h.Notes())
		wantError[api.Note](t, what, api.ErrPlace)(h.Do(n))
		want(t, what, text(h.Notes()), before)
	}
	do(t, h, pass(2, 2, 2))
	do(t, h, heap(9)) // one was withdrawn
	wantError[api.Note](t, "a ninth heap behind all", api.ErrPlace)(h.Do(heap(10)))
	wantError[api.Note](t, "a ninth heap on the last day", api.ErrPlace)(h.Do(heap(9)))
	do(t, h, heap(8)) // it puts the last one out of the register
	wantError[api.Note](t, "a pass of the heap that was put out", api.ErrPlace)(h.Do(pass(20, 2, 12)))
	do(t, h, pass(20, 2, 13))
	for what, n := range map[string]api.Note{
		"a correction of no note": fixPass(1, 7, 7), "a correction of a heap by a pass": fixPass(1, 2, 1), "a withdrawal of no note": withdrawal(1, 7, 7), "a withdrawal of a withdrawal": withdrawal(1, 2, 10),
		"a correction of itself": fixHeap(1, 2, 18), "a ninth heap by a correction": fixHeap(30, 2, 9), "a reading": reading(0), "strokes": strokes(0, 1),
	} {
		if _, e := h.Do(n); e != api.OK {
			t.Errorf("%s: error %d", what, e)
		}
	}
}

// P9.1, T12: what is known of a note ahead of it is asked too.
func TestDoJudged(t *testing.T) {
	for what, x := range map[string]struct {
		known, n api.Note
		e        api.Errno
	}{
		"a pass of no heap, withdrawn ahead of it":       {withdrawal(1, 1, 1), pass(1, 3, 3), api.OK},
		"a pass of no heap that is a reading":            {fixReading(1, 1, 1), pass(1, 3, 3), api.OK},
		"a pass of no heap that is a heap":               {fixHeap(1, 1, 1), pass(1, 3, 3), api.OK},
		"a pass of no heap with other turns":             {fixPass(1, 1, 1), pass(1, 3, 3), api.ErrPlace},
		"a reading, of which a pass is a correction":     {fixPass(1, 1, 1), reading(1), api.OK},
		"a pass of no heap, with a correction elsewhere": {fixReading(1, 1, 2), pass(1, 3, 3), api.ErrPlace},
	} {
		h := newHouse(t, 1)
		hear(t, h, by(2, 1, 1, x.known))
		_, e := h.Do(x.n)
		want(t, what, e, x.e)
	}
	h := newHouse(t, 1)
	manyHeaps(t, h, 8)
	hear(t, h, by(2, 1, 9, fixHeap(9, 1, 9)))
	wantError[api.Note](t, "a reading that is a ninth heap", api.ErrPlace)(h.Do(reading(1)))
	do(t, h, withdrawal(1, 1, 1))
}

// P9.1, T15, T16: counts, and what one with other counts lacks.
func TestMissing(t *testing.T) {
	h := newHouse(t, 3)
	hear(t, h, by(8, 1, 5, heap(1)), by(1, 1, 4, reading(1)), by(8, 2, 3, reading(2)), by(1, 2, 2, reading(3)), by(8, 3, 1, withdrawal(4, 1, 1)))
	do(t, h, strokes(1, 1))
	all := h.Notes()
	want(t, "Counts", h.Counts(), []int{2, 0, 1, 0, 0, 0, 0, 3})
	var names []api.Name
	for _, n := range all {
		names = append(names, nameOf(n))
	}
	want(t, "names", names, []api.Name{name(1, 1), name(1, 2), name(3, 1), name(8, 1), name(8, 2), name(8, 3)})
	for _, x := range []struct {
		counts, indices []int
	}{
		{nil, []int{0, 1, 2, 3, 4, 5}}, {make([]int, 8), []int{0, 1, 2, 3, 4, 5}}, {[]int{-1, math.MinInt, -5}, []int{0, 1, 2, 3, 4, 5}},
		{[]int{1}, []int{1, 2, 3, 4, 5}}, {[]int{2}, []int{2, 3, 4, 5}}, {[]int{3}, []int{2, 3, 4, 5}}, {[]int{0, 0, 1}, []int{0, 1, 3, 4, 5}},
		{[]int{0, 0, 0, 0, 0, 0, 0, 1}, []int{0, 1, 2, 4, 5}}, {[]int{2, 0, 1, 0, 0, 0, 0, 2}, []int{5}}, {[]int{2, 0, 1, 0, 0, 0, 0, 3}, nil},
		{slices.Repeat([]int{math.MaxInt}, 8), nil}, {slices.Repeat([]int{1}, 100), []int{1, 4, 5}}, {h.Counts(), nil},
	} {
		var expected []api.Note
		for _, i := range x.indices {
			expected = append(expected, all[i])
		}
		want(t, "Missing "+text(x.counts), h.Missing(x.counts), expected)
	}
}

// P9.1, T17: notes that are known, and such as leave a gap, are passed over; others are added in order.
func TestHear(t *testing.T) {
	h := newHouse(t, 2)
	a, b, c := by(1, 1, 7, heap(1)), by(1, 2, 7, reading(1)), by(1, 3, 7, strokes(1, 0, 1))
	want(t, "nothing", hear(t, h), 0)
	want(t, "behind a gap", hear(t, h, b, c), 0)
	want(t, "the first one, twice, and one behind a gap", hear(t, h, c, a, a), 1)
	want(t, "the wrong way around", hear(t, h, c, b, a), 1)
	want(t, "all", hear(t, h, a, b, c, c), 1)
	want(t, "all are known", hear(t, h, a, b, c), 0)
	want(t, "notes of its own, and of others", hear(t, h, by(2, 1, 1, reading(1)), by(2, 3, 1, reading(1)), by(8, 1, 1, reading(1)), by(8, 2, 1<<40, withdrawal(1, 1, 1))), 3)
	want(t, "Notes", h.Notes(), []api.Note{a, b, c, by(2, 1, 1, reading(1)), by(8, 1, 1, reading(1)), by(8, 2, 1<<40, withdrawal(1, 1, 1))})
	again := newHouse(t, 2)
	want(t, "a list in order", hear(t, again, h.Notes()...), 6)
	want(t, "the same notes", again.Notes(), h.Notes())
}

// P9.1, T17: each field of a note that is known is asked for.
func TestHearForks(t *testing.T) {
	for what, n := range examples() {
		n.Num = 1
		for which, change := range map[string]func(n *api.Note){
			"clock": func(n *api.Note) { n.Clock = n.Clock%(1<<40) + 1 },
			"day":   func(n *api.Note) { n.Day = (n.Day + 1) % 100000 },
			"kind":  func(n *api.Note) { *n = by(n.House, n.Num, n.Clock, withdrawal(n.Day, 1, 1)) },
			"turns": func(n *api.Note) { n.Turns++ },
			"hard":  func(n *api.Note) { n.Hard.Lo-- },
			"harder": func(n *api.Note) {
				n.Hard.Hi++
			},
			"diff":      func(n *api.Note) { n.Diff.Lo++ },
			"the other": func(n *api.Note) { n.Diff.Hi-- },
			"A":         func(n *api.Note) { n.A = 3 },
			"B":         func(n *api.Note) { n.B = 5 },
			"stone":     func(n *api.Note) { n.Stone = 1 - n.Stone },
			"ring":      func(n *api.Note) { n.Ring = 1 - n.Ring },
			"strokes":   func(n *api.Note) { n.Strokes = append(slices.Clone(n.Strokes), 2) },
			"others":    func(n *api.Note) { n.Strokes = slices.Repeat([]int{2}, len(n.Strokes)) },
			"ref house": func(n *api.Note) { n.Ref.House = n.Ref.House%8 + 1 },
			"ref num":   func(n *api.Note) { n.Ref.Num = n.Ref.Num%400 + 1 },
		} {
			x := n
			if change(&x); history.CheckNote(frame(), x) != api.OK || text(x) == text(n) {
				continue
			}
			h := newHouse(t, 2)
			wantError[int](t, what+" twice, with another "+which, api.ErrFork)(h.Hear([]api.Note{n, x}))
			want(t, what+": nothing is added", h.Notes(), []api.Note{})
			hear(t, h, n)
			first := by(n.House%8+1, 1, 1, reading(3))
			wantError[int](t, what+" with another "+which, api.ErrFork)(h.Hear([]api.Note{first, x}))
			want(t, what+": nothing is added", h.Notes(), []api.Note{n})
		}
	}
}

// P9.1, T17: each error is asked for the whole list ahead of the next one, and with it nothing is added.
func TestHearErrors(t *testing.T) {
	h := newHouse(t, 2)
	hear(t, h, manyReadings(1, 399)...)
	do(t, h, heap(1))
	before := text(h.Notes())
	fresh, fork, bad := by(3, 1, 1, reading(1)), by(1, 5, 1, reading(1)), by(3, 1, 0, reading(1))
	for what, x := range map[string]struct {
		l []api.Note
		e api.Errno
	}{
		"one too many":                        {[]api.Note{fresh}, api.ErrLimit},
		"too many, with others":               {[]api.Note{by(1, 1, 1, reading(1)), by(4, 2, 1, heap(1)), fresh, fresh}, api.ErrLimit},
		"too many, then a fork":               {[]api.Note{fresh, fork}, api.ErrFork},
		"a fork of one too many":              {[]api.Note{fresh, by(3, 1, 1, reading(2))}, api.ErrFork},
		"a fork, then a note of no clock":     {[]api.Note{fork, bad}, api.ErrNote},
		"too many, a fork, and no note":       {[]api.Note{fresh, fork, {}}, api.ErrNote},
		"no note behind a gap":                {[]api.Note{by(3, 9, 1, api.Note{})}, api.ErrNote},
		"a note of a house that there is not": {[]api.Note{by(9, 1, 1, reading(1))}, api.ErrNote},
	} {
		wantError[int](t, what, x.e)(h.Hear(x.l))
		want(t, what, text(h.Notes()), before)
	}
	want(t, "all known, and behind a gap", hear(t, h, append(h.Notes(), by(3, 2, 1, reading(1)))...), 0)
	want(t, "the next clock", text(h.Counts()), "[399 1 0 0 0 0 0 0]")
	small := must[*tallies.House](t, "NewHouse")(tallies.NewHouse(api.Frame{Rings: 1, Sectors: 4, Wide: 2}, 1))
	wantError[int](t, "a note of a larger frame", api.ErrNote)(small.Hear([]api.Note{by(2, 1, 1, strokes(1, 0))}))
	some := newHouse(t, 1)
	hear(t, some, manyReadings(1, 390)...)
	wantError[int](t, "eleven notes", api.ErrLimit)(some.Hear(manyReadings(2, 11)))
	want(t, "ten notes", hear(t, some, manyReadings(2, 10)...), 10)
}

// heard is a list of notes, of which some are known, some not well-formed, some behind a gap, and some of one name with others.
func heard(rng *rand.Rand, known []api.Note) []api.Note {
	var l []api.Note
	for range rng.Intn(6) {
		n := by(fromTo(rng, 1, 3), fromTo(rng, 1, 5), fromTo(rng, 1, 9), someNote(rng, fromTo(rng, 1, 6), 3))
		switch k := rng.Intn(10); {
		case k == 0 && rng.Intn(4) == 0:
			n.Clock = 0
		case k < 5 && len(known) > 0:
			n = known[rng.Intn(len(known))]
		case k < 9:
			n.Num = 1
			for slices.ContainsFunc(slices.Concat(known, l), func(x api.Note) bool { return nameOf(x) == nameOf(n) }) {
				n.Num++
			}
		}
		l = append(l, n)
	}
	return l
}

// P9.1, T11 to T18, P9.4: many houses, with whatever may happen to them.
func TestAnyHouses(t *testing.T) {
	errors, lost := map[api.Errno]int{}, 0
	for seed := range 800 {
		rng := rand.New(rand.NewSource(int64(seed)))
		m := &modelHouse{id: fromTo(rng, 1, 3)}
		h := newHouse(t, m.id)
		for range 40 {
			var got, expected api.Errno
			switch rng.Intn(8) {
			case 0:
				h.Sync()
				m.sync()
			case 1:
				stock, foil := m.pending()
				if rng.Intn(3) > 0 {
					stock, foil = fromTo(rng, -1, stock+1), fromTo(rng, -1, foil+1)
				}
				flip, before := someFlip(rng, stock+foil), len(m.added)
				got, expected = h.Crash(stock, foil, flip), m.crash(stock, foil, flip)
				lost += before - len(m.added)
			case 2, 3:
				l := heard(rng, m.set())
				with := *m
				if _, _, clear := with.hear(l); !clear {
					continue
				}
				added, e := h.Hear(l)
				k, f, _ := m.hear(l)
				want(t, "Hear", added, k)
				got, expected = e, f
			default:
				n := someNote(rng, fromTo(rng, 1, 6), 3)
				x, e := h.Do(n)
				y, f := m.do(n)
				want(t, "Do", x, y)
				got, expected = e, f
			}
			want(t, "the error", got, expected)
			errors[expected]++
			want(t, "Notes", h.Notes(), m.set())
			want(t, "Counts", h.Counts(), m.counts())
			counts := []int{rng.Intn(5), rng.Intn(5), rng.Intn(5)}[:rng.Intn(4)]
			want(t, "Missing", h.Missing(counts), m.missing(counts))
		}
		if t.Failed() {
			t.Fatalf("the house is %d", seed)
		}
	}
	for _, e := range []api.Errno{api.OK, api.ErrArg, api.ErrNote, api.ErrFork, api.ErrPlace} {
		if errors[e] < 200 {
			t.Errorf("error %d came %d times", e, errors[e])
		}
	}
	if lost < 2000 {
		t.Errorf("%d notes were lost", lost)
	}
}
