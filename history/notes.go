package history

import (
	"slices"

	"millrind/api"
)

// CheckNote returns OK if a note is well-formed.
func CheckNote(f api.Frame, n api.Note) api.Errno {
	if !frame(f).isValid() {
		return api.ErrArg
	}
	if !frame(f).isWellFormed(n) {
		return api.ErrNote
	}
	return api.OK
}

// Before reports whether a note takes effect ahead of another one.
func Before(a, b api.Note) bool { return byEffect()(a, b) < 0 }

func (f frame) isWellFormed(n api.Note) bool {
	if !isName(nameOf(n)) || !isFromTo(n.Clock, 1, api.MaxClock) || !isFromTo(n.Day, 0, api.MaxDay) {
		return false
	}
	content := contentOf(n)
	return f.allows(content) && (!refers(n) || isName(n.Ref)) && areEqual(n, plain(n, content))
}

// plain returns a note without the fields that its kind does not use.
func plain(n api.Note, content any) api.Note {
	x := api.Note{House: n.House, Num: n.Num, Clock: n.Clock, Day: n.Day, Kind: n.Kind}
	if refers(n) {
		x.Ref = n.Ref
	}
	if n.Kind == api.NoteCorrect {
		x.Fix = n.Fix
	}
	return saying(x, content)
}

// refers reports whether a note names another one.
func refers(n api.Note) bool { return n.Kind == api.NotePass || isChange(n) }

// isChange reports whether a note is a correction or a withdrawal: all others tell what was done.
func isChange(n api.Note) bool { return n.Kind == api.NoteCorrect || n.Kind == api.NoteWithdraw }

// isName reports whether a note may have a name.
func isName(x api.Name) bool {
	return isFromTo(x.House, 1, api.MaxHouses) && isFromTo(x.Num, 1, api.MaxNotes)
}

func nameOf(n api.Note) api.Name { return api.Name{House: n.House, Num: n.Num} }

func namesOf(notes []api.Note) []api.Name {
	var names []api.Name
	for _, n := range notes {
		names = append(names, nameOf(n))
	}
	return names
}

// numbers is all of a note but for its list: so much of it can be compared at once.
type numbers struct {
	name, ref             api.Name
	clock, day, kind, fix int
	stone, ring, a, b     int
	heap, turns           int
	hard, diff            api.Span
}

func numbersOf(n api.Note) numbers {
	return numbers{
		name: nameOf(n), ref: n.Ref,
		clock: n.Clock, day: n.Day, kind: n.Kind, fix: n.Fix,
		stone: n.Stone, ring: n.Ring, a: n.A, b: n.B,
		heap: n.Heap, turns: n.Turns,
		hard: n.Hard, diff: n.Diff,
	}
}

func areEqual(a, b api.Note) bool {
	return numbersOf(a) == numbersOf(b) && slices.Equal(a.Strokes, b.Strokes)
}

// clone returns a note with a list of its own.
func clone(n api.Note) api.Note {
	n.Strokes = slices.Clone(n.Strokes)
	return n
}
