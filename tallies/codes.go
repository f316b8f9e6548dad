package tallies

import (
	"bytes"
	"slices"

	"millrind/api"
	"millrind/history"
	"millrind/numbers"
)

// Encode returns a note as bytes.
func Encode(f api.Frame, n api.Note) ([]byte, api.Errno) {
	if history.CheckNote(f, n) != api.OK {
		return nil, api.ErrNote
	}
	return appendNote(nil, n), api.OK
}

// Decode returns the note of which bytes are the encoding.
func Decode(f api.Frame, b []byte) (api.Note, api.Errno) {
	var n api.Note
	e := read(b, func(r *reader) { n = r.note() })
	if e != api.OK || history.CheckNote(f, n) != api.OK {
		return api.Note{}, api.ErrCode
	}
	return n, api.OK
}

// ahead returns the numbers of a note ahead of its list, in the order of its encoding.
func ahead(n *api.Note) []*int {
	return []*int{
		&n.House, &n.Num, &n.Clock, &n.Day, &n.Kind, &n.Stone, &n.Heap, &n.Turns,
		&n.Hard.Lo, &n.Hard.Hi, &n.Diff.Lo, &n.Diff.Hi, &n.A, &n.B, &n.Ring,
	}
}

// behind returns the numbers of a note behind its list, in the order of its encoding.
func behind(n *api.Note) []*int { return []*int{&n.Ref.House, &n.Ref.Num, &n.Fix} }

func appendNote(b []byte, n api.Note) []byte {
	for _, number := range ahead(&n) {
		b = numbers.Append(b, *number)
	}
	b = appendList(b, n.Strokes)
	for _, number := range behind(&n) {
		b = numbers.Append(b, *number)
	}
	return b
}

func appendList(b []byte, l []int) []byte {
	b = numbers.Append(b, len(l))
	for _, n := range l {
		b = numbers.Append(b, n)
	}
	return b
}

func nameOf(n api.Note) api.Name { return api.Name{House: n.House, Num: n.Num} }

// areEqual compares notes by their encodings, which tell all of a note.
func areEqual(a, b api.Note) bool { return bytes.Equal(appendNote(nil, a), appendNote(nil, b)) }

// clone returns a note with a list of its own.
func clone(n api.Note) api.Note {
	n.Strokes = slices.Clone(n.Strokes)
	return n
}
