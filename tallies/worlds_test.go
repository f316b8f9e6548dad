package tallies_test

import (
	"math"
	"slices"
	"testing"

	"millrind/api"
	"millrind/tallies"
)

func newWorld(t *testing.T, n int) *tallies.World {
	t.Helper()
	return must[*tallies.World](t, "NewWorld")(tallies.NewWorld(frame(), n))
}

func step(t *testing.T, w *tallies.World, what string, a api.Act, e api.Errno) {
	t.Helper()
	want(t, what, w.Step(a), e)
}

func steps(t *testing.T, w *tallies.World, acts ...api.Act) {
	t.Helper()
	for _, a := range acts {
		step(t, w, "Step "+text(a), a, api.OK)
	}
}

func notesOf(t *testing.T, w *tallies.World, house int) []api.Note {
	t.Helper()
	return must[[]api.Note](t, "Notes")(w.Notes(house))
}

func doing(house int, n api.Note) api.Act {
	return api.Act{Kind: api.ActDo, House: house, Note: n}
}

func asking(house, to int) api.Act { return api.Act{Kind: api.ActAsk, House: house, To: to} }

func delivering(index int) api.Act { return api.Act{Kind: api.ActDeliver, Index: index} }

// losing is a crash of a house that loses all that is pending.
func losing(house int) api.Act { return api.Act{Kind: api.ActCrash, House: house, Index: -1} }

// stateOf is all that a world tells of itself.
func stateOf(t *testing.T, w *tallies.World, houses int) string {
	t.Helper()
	s := text(w.Mails())
	for id := 1; id <= houses; id++ {
		s += text(notesOf(t, w, id))
	}
	return s
}

// P9.1, T19, T22: how many houses there are, and in which frame.
func TestNewWorld(t *testing.T) {
	for n := 1; n <= 8; n++ {
		w := newWorld(t, n)
		want(t, "Mails", w.Mails(), []api.Mail{})
		for id := 1; id <= n; id++ {
			want(t, "Notes", notesOf(t, w, id), []api.Note{})
			steps(t, w, doing(id, heap(2)))
			want(t, "Notes", notesOf(t, w, id), []api.Note{by(id, 1, 1, heap(2))})
		}
		for _, id := range []int{0, n + 1, -1, math.MinInt, math.MaxInt} {
			wantError[[]api.Note](t, "Notes of no house", api.ErrNone)(w.Notes(id))
		}
	}
	for _, n := range []int{0, 9, -1, math.MinInt, math.MaxInt} {
		wantError[*tallies.World](t, "no world", api.ErrArg)(tallies.NewWorld(frame(), n))
	}
	for what, f := range badFrames() {
		wantError[*tallies.World](t, what, api.ErrArg)(tallies.NewWorld(f, 1))
	}
	w := must[*tallies.World](t, "NewWorld")(tallies.NewWorld(api.Frame{Rings: 1, Sectors: 4, Wide: 4}, 2))
	step(t, w, "a ring of a larger frame", doing(1, strokes(1, 0)), api.ErrNote)
}

// P9.1, T20: kinds that are none, and houses that are none where the table names them.
func TestStepErrors(t *testing.T) {
	w := newWorld(t, 2)
	steps(t, w, doing(1, reading(1)), asking(1, 2))
	before := stateOf(t, w, 2)
	for _, kind := range []int{0, 8, -1, math.MinInt, math.MaxInt} {
		step(t, w, "no kind", api.Act{Kind: kind, House: 1, To: 2}, api.ErrArg)
	}
	for _, id := range []int{0, 3, -1, math.MinInt, math.MaxInt} {
		for what, a := range map[string]api.Act{
			"do": doing(id, reading(1)), "do nothing": doing(id, api.Note{}), "sync": {Kind: api.ActSync, House: id}, "ask": asking(id, 1), "ask no house": asking(1, id),
			"ask itself": asking(id, id), "crash": losing(id), "crash too much": {Kind: api.ActCrash, House: id, Keep: 99},
		} {
			step(t, w, what, a, api.ErrArg)
		}
		for _, kind := range []int{api.ActDeliver, api.ActLose, api.ActDouble} {
			for _, index := range []int{1, -1, math.MaxInt, math.MinInt} {
				step(t, w, "no message", api.Act{Kind: kind, House: id, To: id, Index: index}, api.ErrNone)
			}
		}
	}
	for what, x := range map[string]struct {
		a api.Act
		e api.Errno
	}{
		"ask itself":            {asking(1, 1), api.ErrArg},
		"do nothing":            {doing(1, api.Note{}), api.ErrNote},
		"do a pass of no heap":  {doing(1, pass(1, 1, 9)), api.ErrPlace},
		"crash with a stock":    {api.Act{Kind: api.ActCrash, House: 2, Keep: 1, Index: -1}, api.ErrArg},
		"crash with a foil":     {api.Act{Kind: api.ActCrash, House: 2, Flip: 1, Index: -1}, api.ErrArg},
		"crash with a flip":     {api.Act{Kind: api.ActCrash, House: 2, Index: 0}, api.ErrArg},
		"crash with a low flip": {api.Act{Kind: api.ActCrash, House: 2, Index: -2}, api.ErrArg},
	} {
		step(t, w, what, x.a, x.e)
	}
	want(t, "behind errors", stateOf(t, w, 2), before)
	steps(t, w, api.Act{Kind: api.ActLose, House: -1, To: 99, Keep: -5, Flip: -5, Note: api.Note{Kind: 9}})
	steps(t, w, api.Act{Kind: api.ActSync, House: 1, To: -1, Index: 77})
	want(t, "no mail", w.Mails(), []api.Mail{})
}

// P9.1, T20: a house syncs behind a pass and behind strokes, and only behind these.
func TestDoSyncs(t *testing.T) {
	for what, x := range map[string]struct {
		n     api.Note
		syncs bool
	}{
		"a pass": {pass(9, 1, 1), true}, "strokes": {strokes(9, 1), true}, "a heap": {heap(9), false}, "a reading": {reading(9), false}, "a withdrawal": {withdrawal(9, 1, 1), false},
		"a correction by a pass": {fixPass(9, 1, 1), false}, "a correction by strokes": {fixStrokes(9, 1, 1, 2), false},
	} {
		w := newWorld(t, 1)
		steps(t, w, doing(1, heap(1)), doing(1, x.n), losing(1))
		left := []api.Note{by(1, 1, 1, heap(1)), by(1, 2, 2, x.n)}
		if !x.syncs {
			left = nil
		}
		want(t, what, notesOf(t, w, 1), left)
	}
	w := newWorld(t, 1)
	steps(t, w, doing(1, heap(1)))
	step(t, w, "a pass ahead of its heap", doing(1, pass(0, 1, 1)), api.ErrPlace)
	steps(t, w, losing(1))
	want(t, "a pass that is not done", notesOf(t, w, 1), []api.Note{})
}

// P9.1, T20: a house that syncs; and Keep, Flip and Index of a crash.
func TestCrashOfWorld(t *testing.T) {
	for what, x := range map[string]struct {
		keep, flip, index, left int
	}{
		"all is lost": {0, 0, -1, 1}, "no foil": {42, 0, -1, 1}, "no stock": {0, 8, -1, 1}, "the first one is left": {21, 4, -1, 2}, "a torn stock": {20, 8, -1, 1}, "a torn foil": {42, 7, -1, 2},
		"all is left": {42, 8, -1, 3}, "a wrong bit of the first one": {42, 8, 8*21 - 1, 1}, "a wrong bit of the second one": {42, 8, 8 * 21, 2}, "a wrong bit of the second foil": {42, 8, 8*50 - 1, 2}, "of the first foil": {42, 8, 8 * 42, 1},
	} {
		w := newWorld(t, 2)
		small := api.Note{Day: 9, Kind: api.NoteReading, B: 1}
		steps(t, w, doing(1, reading(1)), doing(2, heap(1)), api.Act{Kind: api.ActSync, House: 1}, doing(1, small), doing(1, withSpan(small)))
		steps(t, w, api.Act{Kind: api.ActCrash, House: 1, Keep: x.keep, Flip: x.flip, Index: x.index})
		want(t, what, len(notesOf(t, w, 1)), x.left)
		want(t, what, len(notesOf(t, w, 2)), 1)
		steps(t, w, losing(1), losing(2))
		want(t, what, len(notesOf(t, w, 1)), x.left)
		want(t, what, len(notesOf(t, w, 2)), 0)
	}
}

// withSpan returns a note of another reading, with as many bytes.
func withSpan(n api.Note) api.Note {
	n.Diff = span(-1, 1)
	return n
}

// P9.1, T20, T23: asks and gifts, in the order in which they are sent.
func TestMails(t *testing.T) {
	w := newWorld(t, 3)
	steps(t, w, doing(1, heap(1)), asking(2, 1), asking(3, 1), doing(3, reading(2)), asking(3, 2))
	none, one := []byte{2, 16, 0, 0, 0, 0, 0, 0, 0, 0}, []byte{2, 16, 0, 0, 2, 0, 0, 0, 0, 0}
	want(t, "asks", w.Mails(), []api.Mail{{From: 2, To: 1, Body: none}, {From: 3, To: 1, Body: none}, {From: 3, To: 2, Body: one}})
	steps(t, w, delivering(1))
	n := modelNote(by(1, 1, 1, heap(1)))
	gift := append([]byte{4, 2, byte(2 * len(n))}, n...)
	want(t, "a gift", w.Mails(), []api.Mail{{From: 2, To: 1, Body: none}, {From: 3, To: 2, Body: one}, {From: 1, To: 3, Body: gift}})
	steps(t, w, losing(1))
	want(t, "it was synced ahead of the gift", notesOf(t, w, 1), []api.Note{by(1, 1, 1, heap(1))})
	steps(t, w, delivering(1))
	want(t, "an ask without a gift", w.Mails(), []api.Mail{{From: 2, To: 1, Body: none}, {From: 1, To: 3, Body: gift}})
	steps(t, w, api.Act{Kind: api.ActDouble, Index: 1}, api.Act{Kind: api.ActDouble})
	want(t, "doubled", w.Mails(), []api.Mail{{From: 2, To: 1, Body: none}, {From: 1, To: 3, Body: gift}, {From: 1, To: 3, Body: gift}, {From: 2, To: 1, Body: none}})
	steps(t, w, api.Act{Kind: api.ActLose}, delivering(0))
	want(t, "a gift", notesOf(t, w, 3), []api.Note{by(1, 1, 1, heap(1)), by(3, 1, 1, reading(2))})
	want(t, "the others", w.Mails(), []api.Mail{{From: 1, To: 3, Body: gift}, {From: 2, To: 1, Body: none}})
	steps(t, w, delivering(0))
	want(t, "a gift twice", notesOf(t, w, 3), []api.Note{by(1, 1, 1, heap(1)), by(3, 1, 1, reading(2))})
	want(t, "the others", w.Mails(), []api.Mail{{From: 2, To: 1, Body: none}})
	steps(t, w, losing(3))
	want(t, "what was heard is pending", notesOf(t, w, 3), []api.Note{})
}

// P9.1, T20: an ask makes a house sync, also if there is nothing to give; a gift does not.
func TestDeliverSyncs(t *testing.T) {
	w := newWorld(t, 2)
	steps(t, w, doing(1, heap(1)), asking(2, 1), delivering(0), delivering(0))
	steps(t, w, asking(1, 2), delivering(0))
	want(t, "no gift", w.Mails(), []api.Mail{})
	steps(t, w, losing(2))
	want(t, "what was heard is synced", len(notesOf(t, w, 2)), 1)
	steps(t, w, doing(2, reading(1)), asking(2, 1), delivering(0), losing(2))
	want(t, "who asks does not sync", len(notesOf(t, w, 2)), 1)
}

// P9.1, T20: a gift has at most MaxGift notes, by house, then num.
func TestLargeGifts(t *testing.T) {
	w := newWorld(t, 4)
	for range 10 {
		steps(t, w, doing(3, reading(1)), doing(2, reading(2)))
	}
	steps(t, w, asking(3, 2), delivering(0), delivering(0), doing(1, reading(3)), asking(3, 1), delivering(0), delivering(0))
	want(t, "the third house", len(notesOf(t, w, 3)), 21)
	steps(t, w, asking(4, 3), asking(4, 3), delivering(0), delivering(0), delivering(0))
	all := notesOf(t, w, 3)
	want(t, "the first gift", notesOf(t, w, 4), all[:16])
	want(t, "the other one", w.Mails(), []api.Mail{{From: 3, To: 4, Body: modelMail{notes: all[:16]}.body()}})
	steps(t, w, delivering(0))
	want(t, "the same gift again", notesOf(t, w, 4), all[:16])
	steps(t, w, asking(4, 3), delivering(0), delivering(0))
	want(t, "the last gift", notesOf(t, w, 4), all)
}

// P9.1, T20: at most MaxMail messages are under way; a gift takes the place of its ask.
func TestManyMails(t *testing.T) {
	w := newWorld(t, 2)
	steps(t, w, doing(2, heap(1)))
	double := api.Act{Kind: api.ActDouble, Index: 5}
	for i := range 64 {
		if i%2 == 0 || i < 6 {
			steps(t, w, asking(1, 2))
		} else {
			steps(t, w, double)
		}
	}
	before := stateOf(t, w, 2)
	step(t, w, "one more ask", asking(1, 2), api.ErrLimit)
	step(t, w, "one more ask of itself", asking(1, 1), api.ErrArg)
	step(t, w, "one more message", double, api.ErrLimit)
	step(t, w, "one more of none", api.Act{Kind: api.ActDouble, Index: 64}, api.ErrNone)
	want(t, "behind errors", stateOf(t, w, 2), before)
	steps(t, w, delivering(63))
	want(t, "a gift", len(w.Mails()), 64)
	step(t, w, "one more ask", asking(1, 2), api.ErrLimit)
	steps(t, w, delivering(63))
	want(t, "it is heard", len(notesOf(t, w, 1)), 1)
	steps(t, w, asking(2, 1))
	want(t, "64 messages", len(w.Mails()), 64)
	steps(t, w, api.Act{Kind: api.ActLose, Index: 63}, double)
}

// P9.1, T20, T21: a house hears no more than MaxNotes notes, and then the gift stays under way; nor do houses settle.
func TestFullWorld(t *testing.T) {
	w := newWorld(t, 3)
	for range 200 {
		steps(t, w, doing(1, reading(1)), doing(2, reading(2)))
	}
	want(t, "Settle", w.Settle(), api.OK)
	for id := 1; id <= 3; id++ {
		want(t, "all notes", len(notesOf(t, w, id)), 400)
		step(t, w, "one more", doing(id, reading(1)), api.ErrLimit)
	}
	w = newWorld(t, 3)
	for range 399 {
		steps(t, w, doing(1, reading(1)))
	}
	steps(t, w, asking(2, 1), delivering(0), doing(1, reading(2)), doing(2, reading(3)), doing(3, heap(3)), asking(1, 2), delivering(1))
	before := stateOf(t, w, 3)
	step(t, w, "a gift", delivering(1), api.ErrLimit)
	want(t, "behind an error", stateOf(t, w, 3), before)
	want(t, "Settle", w.Settle(), api.ErrLimit)
	want(t, "behind an error", stateOf(t, w, 3), before)
	steps(t, w, losing(1), losing(2), losing(3))
	for id, count := range []int{399, 1, 0} {
		want(t, "Settle with an error syncs nothing", len(notesOf(t, w, id+1)), count)
	}
	steps(t, w, delivering(1))
	want(t, "the gift", len(notesOf(t, w, 1)), 400)
	want(t, "Settle", w.Settle(), api.OK)
	want(t, "the third house", len(notesOf(t, w, 3)), 400)
}

// P9.1, T21, P9.5: behind Settle all houses know all notes, durable; messages stay.
func TestSettle(t *testing.T) {
	w := newWorld(t, 4)
	want(t, "Settle of nothing", w.Settle(), api.OK)
	steps(t, w, doing(4, heap(1)), asking(2, 4), delivering(0), delivering(0), doing(2, pass(2, 4, 1)), doing(3, reading(5)), doing(1, heap(2)), asking(1, 4))
	mails := w.Mails()
	want(t, "Settle", w.Settle(), api.OK)
	all := []api.Note{by(1, 1, 1, heap(2)), by(2, 1, 2, pass(2, 4, 1)), by(3, 1, 1, reading(5)), by(4, 1, 1, heap(1))}
	for range 2 {
		for id := 1; id <= 4; id++ {
			want(t, "all notes", notesOf(t, w, id), all)
			step(t, w, "nothing is pending", api.Act{Kind: api.ActCrash, House: id, Keep: 1, Index: -1}, api.ErrArg)
			step(t, w, "nothing is pending", api.Act{Kind: api.ActCrash, House: id, Flip: 1, Index: -1}, api.ErrArg)
			steps(t, w, losing(id))
		}
		want(t, "mails stay", w.Mails(), mails)
		want(t, "Settle again", w.Settle(), api.OK)
	}
	steps(t, w, doing(3, reading(0)))
	want(t, "the next clock", notesOf(t, w, 3)[3], by(3, 2, 3, reading(0)))
	alone := newWorld(t, 1)
	steps(t, alone, doing(1, heap(1)))
	want(t, "Settle alone", alone.Settle(), api.OK)
	steps(t, alone, losing(1))
	want(t, "it syncs", notesOf(t, alone, 1), []api.Note{by(1, 1, 1, heap(1))})
}

// P9.1, Errors: houses and worlds that are nil, or were not made.
func TestNotMade(t *testing.T) {
	for what, h := range map[string]*tallies.House{"a nil house": nil, "a zero house": {}} {
		h.Sync()
		wantError[api.Note](t, what, api.ErrArg)(h.Do(heap(1)))
		wantError[api.Note](t, what, api.ErrArg)(h.Do(api.Note{}))
		wantError[int](t, what, api.ErrArg)(h.Hear(manyReadings(1, 3)))
		wantError[int](t, what, api.ErrArg)(h.Hear([]api.Note{{}}))
		wantError[int](t, what, api.ErrArg)(h.Hear(nil))
		want(t, what, h.Crash(0, 0, -1), api.ErrArg)
		want(t, what, h.Notes(), []api.Note{})
		want(t, what, h.Counts(), []int{})
		want(t, what, h.Missing(nil), []api.Note{})
		want(t, what, h.Missing([]int{-1}), []api.Note{})
	}
	for what, w := range map[string]*tallies.World{"a nil world": nil, "a zero world": {}} {
		for kind := range 9 {
			want(t, what, w.Step(api.Act{Kind: kind, House: 1, To: 2, Note: heap(1)}), api.ErrArg)
		}
		want(t, what, w.Step(losing(1)), api.ErrArg)
		want(t, what, w.Settle(), api.ErrArg)
		wantError[[]api.Note](t, what, api.ErrArg)(w.Notes(1))
		wantError[[]api.Note](t, what, api.ErrArg)(w.Notes(9))
		want(t, what, w.Mails(), []api.Mail{})
	}
}

// R7: houses and worlds keep nothing of others, and give nothing of their own away.
func TestHousesAreAlone(t *testing.T) {
	firsts := []int{0, 1, 2, 2}[:3]
	h, w := newHouse(t, 1), newWorld(t, 2)
	spoil := func(l []api.Note) {
		for i := range l {
			clear(l[i].Strokes)
			_ = append(l[i].Strokes, 5)
			l[i] = api.Note{}
		}
	}
	done := do(t, h, strokes(1, firsts...))
	steps(t, w, doing(1, strokes(1, firsts...)))
	l := []api.Note{by(2, 1, 1, strokes(3, firsts...))}
	hear(t, h, l...)
	want(t, "the list", l, []api.Note{by(2, 1, 1, strokes(3, 0, 1, 2))})
	spoil([]api.Note{done})
	clear(firsts)
	all := []api.Note{by(1, 1, 1, strokes(1, 0, 1, 2)), by(2, 1, 1, strokes(3, 0, 1, 2))}
	for range 2 {
		want(t, "the house", h.Notes(), all)
		want(t, "the world", notesOf(t, w, 1), all[:1])
		spoil(h.Notes())
		spoil(h.Missing(nil))
		spoil(notesOf(t, w, 1))
		counts := h.Counts()
		clear(counts)
		h.Missing(counts)
		want(t, "counts that are not changed", counts, make([]int, 8))
	}
	want(t, "Counts", h.Counts(), []int{1, 1, 0, 0, 0, 0, 0, 0})
	steps(t, w, asking(2, 1), api.Act{Kind: api.ActDouble}, delivering(0))
	before := text(w.Mails())
	for _, m := range w.Mails() {
		clear(m.Body)
	}
	mails := w.Mails()
	mails[0] = api.Mail{}
	want(t, "mails", text(w.Mails()), before)
	steps(t, w, delivering(1))
	want(t, "the other house", notesOf(t, w, 2), all[:1])
	spoil(notesOf(t, w, 2))
	want(t, "the first house", notesOf(t, w, 1), all[:1])
	want(t, "Settle", w.Settle(), api.OK)
	spoil(notesOf(t, w, 1))
	want(t, "the other house", notesOf(t, w, 2), all[:1])
	want(t, "a list with room", slices.Equal(firsts[:4], []int{0, 0, 0, 2}), true)
}
