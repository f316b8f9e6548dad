package history_test

import (
	"math/rand"
	"slices"
	"testing"

	"millrind/api"
	"millrind/history"
)

func effective(t *testing.T, l []api.Note) []api.Event {
	t.Helper()
	return must[[]api.Event](t, "Effective")(history.Effective(frame(), l))
}

// eventOf returns the event of a note, if it counts.
func eventOf(events []api.Event, x api.Name) (api.Event, bool) {
	at := slices.IndexFunc(events, func(e api.Event) bool { return e.Ref == x })
	if at < 0 {
		return api.Event{}, false
	}
	return events[at], true
}

// without returns the events of all other notes.
func without(events []api.Event, x api.Name) []api.Event {
	return slices.DeleteFunc(slices.Clone(events), func(e api.Event) bool { return e.Ref == x })
}

// P8.1, H8: the events of the chapter's examples.
func TestExampleEvents(t *testing.T) {
	l := sample()
	plain := []api.Event{{Ref: name(1, 1), Note: l[0]}, {Ref: name(1, 2), Note: l[1]}, {Ref: name(1, 3), Note: l[2]}}
	want(t, "as they are", effective(t, l), plain)
	early := l[1]
	early.Day, early.Turns = 4, 5
	want(t, "a pass ahead of its heap", effective(t, sample(fixPass(4))), []api.Event{{Ref: name(1, 2), Note: early}, plain[0], plain[2]})
	want(t, "without the heap", effective(t, sample(withdrawal(4, 4, name(1, 1)))), plain[1:])
	never := fixPass(6)
	never.Ref = name(1, 3)
	want(t, "strokes fixed by a pass", effective(t, sample(never)), plain)
	want(t, "no notes", effective(t, nil), []api.Event{})
}

// P8.1: what counts of a note of each kind that is corrected by each kind has its own house, num and clock, the day and the content of the correction, and of a pass the heap.
func TestCorrectionsOfKinds(t *testing.T) {
	for what, n := range examples() {
		for which, fix := range examples() {
			if isChange(n) || fix.Kind != api.NoteCorrect {
				continue
			}
			fix.House, fix.Num, fix.Clock, fix.Day, fix.Ref = 1, 3, 77, 66, name(2, 7)
			x := examples()["a heap"]
			switch {
			case fix.Fix == api.NotePass && n.Kind != api.NotePass:
				x, fix.Day = n, n.Day
			case fix.Fix == api.NotePass:
				x = examples()["a pass"]
			case fix.Fix == api.NoteReading:
				x = examples()["a reading"]
			case fix.Fix == api.NoteStrokes:
				x = examples()["strokes"]
			}
			x.Day = fix.Day
			want(t, what+" corrected: "+which, effective(t, []api.Note{fix, n}), []api.Event{{Ref: name(2, 7), Note: x}})
		}
	}
	first, second := fixPass(6), fixPass(6)
	first.Fix, first.Turns, first.Hard = api.NoteHeap, 0, span(1, 1)
	second.Num, second.Clock, second.Turns = 5, 5, 8
	x, _ := eventOf(effective(t, sample(first, second)), name(1, 2))
	want(t, "a pass that was a heap is a pass again", x.Note, api.Note{House: 1, Num: 2, Clock: 2, Day: 6, Kind: 2, Ref: name(1, 1), Turns: 8})
}

// P8.1, P8.4: the last one by clock, then house, then num, is the judge, whatever its day; what can never be a judge does not matter.
func TestJudges(t *testing.T) {
	turns := func(l []api.Note) int {
		x, _ := eventOf(effective(t, l), name(1, 2))
		return x.Note.Turns
	}
	fix := func(house, num, clock, day, turns int) api.Note {
		n := fixPass(day)
		n.House, n.Num, n.Clock, n.Turns = house, num, clock, turns
		return n
	}
	want(t, "a later clock", turns(sample(fix(1, 4, 9, 0, 11), fix(1, 5, 8, 99, 12), fix(2, 1, 7, 99, 13))), 11)
	want(t, "a later house", turns(sample(fix(1, 4, 9, 99, 11), fix(1, 9, 9, 99, 12), fix(2, 1, 9, 0, 13))), 13)
	want(t, "a later num", turns(sample(fix(1, 4, 9, 99, 11), fix(1, 5, 9, 0, 12))), 12)
	want(t, "a withdrawal behind it", turns(sample(fix(1, 4, 9, 9, 11), withdrawal(5, 9, name(1, 2)))), 0)
	want(t, "a withdrawal ahead of it", turns(sample(fix(1, 4, 9, 9, 11), withdrawal(5, 8, name(1, 2)))), 11)
	want(t, "a withdrawal of the withdrawal", turns(sample(withdrawal(4, 4, name(1, 2)), withdrawal(5, 5, name(1, 4)))), 0)
	want(t, "a withdrawal of the correction", turns(sample(fix(1, 4, 4, 9, 11), withdrawal(5, 5, name(1, 4)))), 11)
	want(t, "a clock ahead of the note's", turns(sample(fix(1, 4, 1, 9, 11))), 11)
	never := fix(1, 5, 9, 9, 11)
	never.Ref = name(1, 3)
	l := effective(t, sample(withdrawal(4, 4, name(1, 3)), never))
	want(t, "a correction that can never judge the strokes, behind their withdrawal", len(l), 2)
}

// P8.1, P8.4, H8: events of any set are as the chapter says.
func TestAnyEvents(t *testing.T) {
	withdrawn, changed := 0, 0
	eachSet(t, 600, func(rng *rand.Rand, l []api.Note) {
		events := effective(t, l)
		want(t, "Effective", events, modelEvents(l))
		want(t, "the order", slices.IsSortedFunc(events, func(a, b api.Event) int {
			if history.Before(a.Note, b.Note) {
				return -1
			}
			return 1
		}), true)
		for _, n := range l {
			judge, is := modelJudge(l, n)
			if !is {
				continue
			}
			changed++
			if judge.Kind == 6 {
				withdrawn++
				_, counts := eventOf(events, name(n.House, n.Num))
				want(t, "a withdrawn note counts", counts, false)
			}
		}
	})
	if withdrawn < 300 || changed-withdrawn < 300 {
		t.Errorf("%d notes withdrawn, %d corrected", withdrawn, changed-withdrawn)
	}
}

// P8.4: what counts of a note does not depend on the order in which its corrections became known, but for the last one.
func TestOrderOfCorrections(t *testing.T) {
	shuffled := 0
	eachSet(t, 900, func(rng *rand.Rand, l []api.Note) {
		other := cloneNotes(l)
		for _, n := range l {
			judge, is := modelJudge(l, n)
			if !is {
				continue
			}
			for i, x := range other {
				earlier := x.Clock < judge.Clock && isChange(x) && x.Ref == judge.Ref
				if earlier && name(x.House, x.Num) != name(judge.House, judge.Num) {
					other[i].Clock = fromTo(rng, 1, judge.Clock-1)
					shuffled++
				}
			}
		}
		want(t, "Effective", effective(t, other), effective(t, l))
	})
	if shuffled < 200 {
		t.Errorf("%d corrections were known in another order", shuffled)
	}
}

// P8.4: with a further correction or withdrawal that is the last one of a note, no event but that of this note changes.
func TestFurtherCorrection(t *testing.T) {
	eachSet(t, 400, func(rng *rand.Rand, l []api.Note) {
		before := effective(t, l)
		of := l[rng.Intn(len(l))]
		n := anyNote(rng, 4, 1, 1, []int{5, 6})
		n.Clock, n.Ref = 1000, name(of.House, of.Num)
		after := effective(t, append(cloneNotes(l), n))
		want(t, "all other events", without(after, n.Ref), without(before, n.Ref))
		x, is := eventOf(after, n.Ref)
		switch {
		case !mayJudge(n, of):
			y, was := eventOf(before, n.Ref)
			want(t, "the event of what it cannot judge", []any{x, is}, []any{y, was})
		case n.Kind == 6:
			want(t, "a withdrawn event", is, false)
		default:
			want(t, "a corrected event", []int{x.Note.Kind, x.Note.Day, x.Note.Clock}, []int{n.Fix, n.Day, of.Clock})
		}
	})
}
