package history_test

import (
	"math"
	"math/rand"
	"slices"
	"testing"

	"millrind/api"
	"millrind/history"
)

func asOf(t *testing.T, l []api.Note, day, clock int) api.Register {
	t.Helper()
	return must[api.Register](t, "AsOf")(history.AsOf(frame(), l, day, clock))
}

// refs returns the names of events.
func refs(events []api.Event) []api.Name {
	var names []api.Name
	for _, x := range events {
		names = append(names, x.Ref)
	}
	return names
}

func wantRefs(t *testing.T, what string, r api.Register, heaps, events, conflicts []api.Name) {
	t.Helper()
	want(t, what+": Heaps", refs(r.Heaps), heaps)
	want(t, what+": Events", refs(r.Events), events)
	want(t, what+": Conflicts", r.Conflicts, conflicts)
}

func passes(t *testing.T, r api.Register, heap int) int {
	t.Helper()
	return must[int](t, "Passes")(history.Passes(r, heap))
}

// P8.1, H9, H10, H12, H13: the chapter's examples.
func TestExampleRegisters(t *testing.T) {
	type names = []api.Name
	r := fold(t, sample())
	wantRefs(t, "the example", r, names{name(1, 1)}, names{name(1, 2), name(1, 3)}, nil)
	want(t, "HeapOf", must[int](t, "HeapOf")(history.HeapOf(r, name(1, 1))), 0)
	want(t, "Passes", passes(t, r, 0), 3)
	wantRefs(t, "a pass ahead of its heap", fold(t, sample(fixPass(4))), names{name(1, 1)}, names{name(1, 3)}, names{name(1, 2)})
	want(t, "Passes of 5 turns", passes(t, fold(t, sample(fixPass(6))), 0), 5)
	want(t, "Passes of 3 turns", passes(t, asOf(t, sample(fixPass(6)), 99999, 3), 0), 3)
	wantRefs(t, "without the heap", fold(t, sample(withdrawal(4, 4, name(1, 1)))), nil, names{name(1, 3)}, names{name(1, 2)})
	never := fixPass(6)
	never.Ref = name(1, 3)
	r = fold(t, sample(never))
	wantRefs(t, "strokes fixed by a pass", r, names{name(1, 1)}, names{name(1, 2), name(1, 3)}, names{name(1, 4)})
	want(t, "the strokes", r.Events[1].Note, sample()[2])
	want(t, "nothing", fold(t, nil), api.Register{})
	last := sample()
	last[2].Day, last[2].Clock = 99999, 1<<40
	want(t, "the last day and clock", len(fold(t, last).Events), 2)
}

// P8.1, H9: of more than eight heaps those that take effect last are conflicts, and so are their passes; a pass on the day of its heap takes effect behind it only by clock and name.
func TestConflicts(t *testing.T) {
	l := manyNotes(0, 10)
	l[0].Day = 7
	l[4].Clock = 5
	for i := range 10 {
		l = append(l, api.Note{House: 1, Num: 11 + i, Clock: 9, Day: 8, Kind: api.NotePass, Ref: name(1, 1+i), Turns: 1})
	}
	r := fold(t, l)
	wantRefs(t, "ten heaps", r,
		[]api.Name{name(1, 2), name(1, 3), name(1, 4), name(1, 6), name(1, 7), name(1, 8), name(1, 9), name(1, 10)},
		[]api.Name{name(1, 12), name(1, 13), name(1, 14), name(1, 16), name(1, 17), name(1, 18), name(1, 19), name(1, 20)},
		[]api.Name{name(1, 1), name(1, 5), name(1, 11), name(1, 15)})
	l[10].Day = 0
	want(t, "a pass of a heap that comes later", fold(t, l).Conflicts, []api.Name{name(1, 1), name(1, 5), name(1, 11), name(1, 15)})
	of := sample()
	for _, x := range []struct {
		house, num, clock, day int
		is                     bool
	}{{1, 2, 2, 5, true}, {1, 2, 1, 5, true}, {2, 1, 1, 5, true}, {2, 1, 1, 4, false}, {1, 2, 1, 4, false}} {
		of[1].House, of[1].Num, of[1].Clock, of[1].Day = x.house, x.num, x.clock, x.day
		r := fold(t, of[:2])
		want(t, "a pass beside its heap", len(r.Events) == 1, x.is)
	}
	of[0].House, of[0].Num, of[1].House, of[1].Num, of[1].Clock, of[1].Day = 2, 1, 1, 9, 1, 5
	of[1].Ref = name(2, 1)
	wantRefs(t, "a lesser house at one clock", fold(t, []api.Note{of[1], of[0]}), []api.Name{name(2, 1)}, nil, []api.Name{name(1, 9)})
	never := []api.Note{withdrawal(1, 1, name(1, 1)), withdrawal(2, 1, name(1, 3)), withdrawal(3, 1, name(8, 400))}
	never[1].Kind, never[1].Fix, never[1].Turns = api.NoteCorrect, api.NotePass, 3
	wantRefs(t, "changes of nothing", fold(t, never), nil, nil, []api.Name{name(1, 1), name(1, 2), name(1, 3)})
}

// P8.1: a note that is withdrawn and a correction that is not the last one are no conflicts; a pass of a note that became a heap is none.
func TestNoConflicts(t *testing.T) {
	l := sample(fixPass(6), withdrawal(5, 5, name(1, 2)), withdrawal(6, 2, name(1, 2)))
	wantRefs(t, "a withdrawn pass", fold(t, l), []api.Name{name(1, 1)}, []api.Name{name(1, 3)}, nil)
	l = sample(api.Note{House: 1, Num: 4, Clock: 4, Day: 5, Kind: api.NoteCorrect, Ref: name(1, 3), Fix: api.NoteHeap, Hard: span(9, 9)},
		api.Note{House: 1, Num: 5, Clock: 5, Day: 6, Kind: api.NotePass, Ref: name(1, 3), Turns: 7})
	r := fold(t, l)
	wantRefs(t, "strokes that were a heap", r, []api.Name{name(1, 1), name(1, 3)}, []api.Name{name(1, 2), name(1, 5)}, nil)
	want(t, "Passes of it", passes(t, r, 1), 7)
	heap := api.Note{House: 1, Num: 4, Clock: 4, Day: 5, Kind: api.NoteCorrect, Ref: name(1, 1), Fix: api.NoteStrokes, Strokes: []int{1}}
	wantRefs(t, "a heap that was strokes", fold(t, sample(heap)), nil, []api.Name{name(1, 1), name(1, 3)}, []api.Name{name(1, 2)})
}

// P8.1, P8.3, H9, H10: registers of any set, by any day and clock, are as the chapter says.
func TestAnyRegisters(t *testing.T) {
	conflicts, full := 0, 0
	eachSet(t, 600, func(rng *rand.Rand, l []api.Note) {
		r := fold(t, l)
		want(t, "Fold", r, modelRegister(l, 99999, 1<<40))
		conflicts += len(r.Conflicts)
		if len(r.Heaps) == 8 {
			full++
		}
		for range 4 {
			day, clock := fromTo(rng, -1, 5), fromTo(rng, 0, 10)
			want(t, "AsOf", asOf(t, l, day, clock), modelRegister(l, day, clock))
		}
	})
	if conflicts < 600 || full < 60 {
		t.Errorf("%d conflicts, %d registers full of heaps", conflicts, full)
	}
}

// P8.3: as of a day and a clock that no note is beyond a register is that of Fold; any numbers may be asked for; notes with greater clocks change nothing that was known.
func TestWhatWasKnown(t *testing.T) {
	want(t, "as of no clock", asOf(t, sample(), 99999, 0), api.Register{})
	want(t, "as of no day", asOf(t, sample(), -1, 99), api.Register{})
	want(t, "ahead of all", asOf(t, sample(withdrawal(4, 1, name(5, 5))), math.MinInt, math.MaxInt), api.Register{Conflicts: []api.Name{name(1, 4)}})
	want(t, "known ahead of all", asOf(t, sample(withdrawal(4, 1, name(5, 5))), math.MaxInt, math.MinInt), api.Register{})
	eachSet(t, 300, func(rng *rand.Rand, l []api.Note) {
		r := fold(t, l)
		want(t, "behind all", asOf(t, l, math.MaxInt, math.MaxInt), r)
		day, clock := 0, 0
		for _, n := range l {
			day, clock = max(day, n.Day), max(clock, n.Clock)
		}
		want(t, "as of the last day and clock", asOf(t, l, day, clock), r)
		day, clock = fromTo(rng, 0, 4), fromTo(rng, 1, clock)
		var known, more []api.Note
		for _, n := range l {
			if n.Clock <= clock {
				known, more = append(known, n), append(more, n)
			} else if rng.Intn(2) == 0 {
				more = append(more, anyNote(rng, n.House, n.Num, 1, []int{1, 2, 3, 4, 5, 6}))
				more[len(more)-1].Clock = clock + fromTo(rng, 1, 9)
			}
		}
		want(t, "of what was known", asOf(t, known, day, clock), asOf(t, l, day, clock))
		want(t, "of what became known otherwise", asOf(t, more, day, clock), asOf(t, l, day, clock))
	})
}

// P8.5: the register of a set is right; each pass has its heap, and Passes of all heaps are the turns of all passes.
func TestRegistersAreRight(t *testing.T) {
	eachSet(t, 400, func(rng *rand.Rand, l []api.Note) {
		r := asOf(t, l, fromTo(rng, 2, 9), fromTo(rng, 2, 99))
		if !modelRight(frame(), r) {
			t.Errorf("the register %+v is not right", r)
		}
		_, e := history.StrokesOn(frame(), r, 0, 0)
		wantError(t, "StrokesOn", e, api.OK)
		sum := 0
		for _, x := range r.Events {
			if x.Note.Kind == api.NotePass {
				sum += x.Note.Turns
				heap := must[int](t, "HeapOf")(history.HeapOf(r, x.Note.Ref))
				want(t, "its heap", r.Heaps[heap].Ref, x.Note.Ref)
			}
		}
		for heap := range r.Heaps {
			sum -= passes(t, r, heap)
		}
		want(t, "turns of no heap", sum, 0)
	})
}

// modelRight goes through the conditions of a right register.
func modelRight(f api.Frame, r api.Register) bool {
	if len(r.Heaps) > 8 || len(r.Events) > 400 {
		return false
	}
	names := map[api.Name]int{}
	for _, x := range slices.Concat(r.Heaps, r.Events) {
		if !modelWellFormed(f, x.Note) || name(x.Note.House, x.Note.Num) != x.Ref {
			return false
		}
		names[x.Ref]++
	}
	heaps := refs(r.Heaps)
	for _, x := range r.Heaps {
		if x.Note.Kind != 1 || names[x.Ref] > 1 {
			return false
		}
	}
	for _, x := range r.Events {
		if !within(x.Note.Kind, 2, 4) || names[x.Ref] > 1 || x.Note.Kind == 2 && !slices.Contains(heaps, x.Note.Ref) {
			return false
		}
	}
	return true
}

// P8.1, H12, H13: any register may be asked for its heaps and passes.
func TestAnyFormOfRegister(t *testing.T) {
	pass := func(ref api.Name, turns int) api.Event {
		return api.Event{Note: api.Note{Kind: api.NotePass, Ref: ref, Turns: turns}}
	}
	r := api.Register{
		Heaps:  []api.Event{{Ref: name(9, -1)}, {Ref: name(1, 1)}, {Ref: name(9, -1)}, {}},
		Events: []api.Event{pass(name(1, 1), 10000), pass(name(9, -1), 1), pass(name(1, 1), 0), pass(name(1, 1), 10001), pass(name(1, 1), -5), pass(name(1, 1), math.MaxInt), pass(name(1, 1), 7), pass(api.Name{}, 4)},
	}
	reading := pass(name(1, 1), 100)
	reading.Note.Kind = api.NoteReading
	r.Events = append(r.Events, reading, api.Event{Ref: name(1, 1)})
	for i, sum := range []int{1, 10007, 1, 4} {
		want(t, "Passes", passes(t, r, i), sum)
	}
	for _, i := range []int{-1, 4, math.MinInt, math.MaxInt} {
		n, e := history.Passes(r, i)
		wantError(t, "Passes of no heap", e, api.ErrNone)
		want(t, "Passes of no heap", n, 0)
	}
	want(t, "the first one", must[int](t, "HeapOf")(history.HeapOf(r, name(9, -1))), 0)
	want(t, "another one", must[int](t, "HeapOf")(history.HeapOf(r, name(1, 1))), 1)
	want(t, "a heap without a name", must[int](t, "HeapOf")(history.HeapOf(r, api.Name{})), 3)
	n, e := history.HeapOf(r, name(1, 2))
	wantError(t, "no heap", e, api.ErrNone)
	want(t, "no heap", n, 0)
	r.Events = slices.Repeat([]api.Event{pass(name(1, 1), 10000)}, 400)
	want(t, "400 events", passes(t, r, 1), 4000000)
	r.Events = append(r.Events, pass(name(1, 1), 1))
	want(t, "what is behind 400 events", passes(t, r, 1), 4000000)
	r.Events[0].Note.Turns = 0
	want(t, "a pass without turns among them", passes(t, r, 1), 3990000)
}
