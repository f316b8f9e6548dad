package history

import (
	"slices"

	"millrind/api"
)

// Fold returns the register of a set.
func Fold(f api.Frame, l []api.Note) (api.Register, api.Errno) {
	return AsOf(f, l, api.MaxDay, api.MaxClock)
}

// AsOf returns the register of what was done by a day as it was known at a time.
func AsOf(f api.Frame, l []api.Note, day, clock int) (api.Register, api.Errno) {
	if _, e := openSet(f, l); e != api.OK {
		return api.Register{}, e
	}
	known := set{}
	for _, n := range l {
		if n.Clock <= clock {
			known[nameOf(n)] = n
		}
	}
	return known.register(day), api.OK
}

// HeapOf returns the number of a heap.
func HeapOf(r api.Register, ref api.Name) (int, api.Errno) {
	for i, x := range r.Heaps {
		if x.Ref == ref {
			return i, api.OK
		}
	}
	return 0, api.ErrNone
}

// Passes returns the turns for which a heap went through.
func Passes(r api.Register, heap int) (int, api.Errno) {
	if !isFromTo(heap, 0, len(r.Heaps)-1) {
		return 0, api.ErrNone
	}
	turns := 0
	for _, x := range r.Events[:min(len(r.Events), api.MaxNotes)] {
		n := x.Note
		if n.Kind == api.NotePass && n.Ref == r.Heaps[heap].Ref && isFromTo(n.Turns, 1, maxPass) {
			turns += n.Turns
		}
	}
	return turns, api.OK
}

// register returns what the notes amount to by a day.
func (s set) register(day int) api.Register {
	var r api.Register
	var conflicts []api.Note
	effects := effectsOn(&r)
	for x := range s.events() {
		if x.Note.Day > day {
			break
		}
		if takesEffect := effects[x.Note.Kind]; !takesEffect(x) {
			conflicts = append(conflicts, x.Note)
		}
	}
	for _, n := range s {
		if isChange(n) && !s.mayJudge(n) {
			conflicts = append(conflicts, n)
		}
	}
	slices.SortFunc(conflicts, byName())
	r.Conflicts = namesOf(conflicts)
	return r
}

// effectsOn returns, by the kinds of events, what adds one to a register, or reports that it is a conflict.
func effectsOn(r *api.Register) map[int]func(api.Event) bool {
	add := func(x api.Event) bool {
		r.Events = append(r.Events, x)
		return true
	}
	return map[int]func(api.Event) bool{
		api.NoteHeap: func(x api.Event) bool {
			if len(r.Heaps) == api.MaxHeaps {
				return false
			}
			r.Heaps = append(r.Heaps, x)
			return true
		},
		api.NotePass: func(x api.Event) bool {
			_, e := HeapOf(*r, x.Note.Ref)
			return e == api.OK && add(x)
		},
		api.NoteReading: add,
		api.NoteStrokes: add,
	}
}

// registers reports whether a register is right for a frame.
func (f frame) registers(r api.Register) bool {
	if len(r.Heaps) > api.MaxHeaps || len(r.Events) > api.MaxNotes {
		return false
	}
	seen := set{}
	for i, x := range slices.Concat(r.Heaps, r.Events) {
		if _, again := seen[x.Ref]; again || !f.isEvent(x) || (x.Note.Kind == api.NoteHeap) != (i < len(r.Heaps)) {
			return false
		}
		seen[x.Ref] = x.Note
	}
	for _, x := range r.Events {
		if x.Note.Kind == api.NotePass && seen[x.Note.Ref].Kind != api.NoteHeap {
			return false
		}
	}
	return true
}

// isEvent reports whether an event is a well-formed note that tells what was done, under its name.
func (f frame) isEvent(x api.Event) bool {
	return f.isWellFormed(x.Note) && !isChange(x.Note) && x.Ref == nameOf(x.Note)
}
