package history

import (
	"slices"

	"millrind/api"
)

// set is the notes of a set, by name.
type set map[api.Name]api.Note

// CheckSet returns what is wrong with a set first.
func CheckSet(f api.Frame, l []api.Note) (api.Errno, int) {
	if !frame(f).isValid() {
		return api.ErrArg, 0
	}
	if len(l) > api.MaxNotes {
		return api.ErrLimit, 0
	}
	for i, n := range l {
		if !frame(f).isWellFormed(n) {
			return api.ErrNote, i
		}
		if i > 0 && nameOf(n) == nameOf(l[i-1]) {
			return api.ErrFork, i
		}
		if i > 0 && byName()(n, l[i-1]) < 0 {
			return api.ErrArg, i
		}
	}
	return api.OK, 0
}

// Merge returns the notes of two sets.
func Merge(f api.Frame, a, b []api.Note) ([]api.Note, api.Errno) {
	switch _, e := Fork(f, a, b); e {
	case api.ErrNone:
	case api.OK:
		return nil, api.ErrFork
	default:
		return nil, e
	}
	s := setOf(a)
	for _, n := range b {
		s[nameOf(n)] = n
	}
	if len(s) > api.MaxNotes {
		return nil, api.ErrLimit
	}
	return s.sorted(byName()), api.OK
}

// Fork returns the first name of which two sets have different notes.
func Fork(f api.Frame, a, b []api.Note) (api.Name, api.Errno) {
	s, e := openSet(f, a)
	if e != api.OK {
		return api.Name{}, e
	}
	if _, e := openSet(f, b); e != api.OK {
		return api.Name{}, e
	}
	for _, n := range b {
		if other, is := s[nameOf(n)]; is && !areEqual(n, other) {
			return nameOf(n), api.OK
		}
	}
	return api.Name{}, api.ErrNone
}

// Chain returns the corrections and withdrawals of a note.
func Chain(f api.Frame, l []api.Note, ref api.Name) ([]api.Name, api.Errno) {
	s, e := openSet(f, l)
	if e != api.OK {
		return nil, e
	}
	if n, is := s[ref]; !is || isChange(n) {
		return nil, api.ErrNone
	}
	var changes []api.Note
	for _, n := range l {
		if isChange(n) && n.Ref == ref {
			changes = append(changes, n)
		}
	}
	slices.SortFunc(changes, byClock())
	return namesOf(changes), api.OK
}

// openSet returns notes by name, if they are a set.
func openSet(f api.Frame, l []api.Note) (set, api.Errno) {
	if e, _ := CheckSet(f, l); e != api.OK {
		return nil, api.ErrArg
	}
	return setOf(l), api.OK
}

func setOf(l []api.Note) set {
	s := set{}
	for _, n := range l {
		s[nameOf(n)] = n
	}
	return s
}

// sorted returns copies of all notes in an order.
func (s set) sorted(o order) []api.Note {
	var notes []api.Note
	for _, n := range s {
		notes = append(notes, clone(n))
	}
	slices.SortFunc(notes, o)
	return notes
}
