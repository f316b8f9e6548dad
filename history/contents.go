package history

import (
	"slices"

	"millrind/api"
)

const maxPass = 10000 // turns of a pass

// What a note says, but for who wrote it, when, and which other note it names, is a value of one of these types.
type (
	heap    struct{ hard api.Span }
	pass    struct{ turns int }
	reading struct {
		stone, a, b int
		diff        api.Span
	}
	strokes struct {
		stone, ring int
		firsts      []int
	}
	withdrawal struct{}
)

// contentOf returns what a note says; nil, if there is no such kind of notes or of corrections.
func contentOf(n api.Note) any {
	kind := n.Kind
	switch n.Kind {
	case api.NoteCorrect:
		kind = n.Fix
	case api.NoteWithdraw:
		return withdrawal{}
	}
	switch kind {
	case api.NoteHeap:
		return heap{n.Hard}
	case api.NotePass:
		return pass{n.Turns}
	case api.NoteReading:
		return reading{n.Stone, n.A, n.B, n.Diff}
	case api.NoteStrokes:
		return strokes{n.Stone, n.Ring, n.Strokes}
	}
	return nil
}

// allows reports whether a note may say this of stones of a frame.
func (f frame) allows(content any) bool {
	switch x := content.(type) {
	case heap:
		return inOrder(x.hard, 1, api.MaxHard)
	case pass:
		return isFromTo(x.turns, 1, maxPass)
	case reading:
		return isStone(x.stone) && f.hasCell(x.a) && (x.b == -1 || f.hasCell(x.b)) && x.a != x.b && inOrder(x.diff, -api.MaxHeight, api.MaxHeight)
	case strokes:
		return f.hasLine(x.stone, x.ring) && f.areFirsts(x.firsts)
	case withdrawal:
		return true
	}
	return false
}

func (f frame) areFirsts(firsts []int) bool {
	if !isFromTo(len(firsts), 1, api.MaxList) || !slices.IsSorted(firsts) {
		return false
	}
	return firsts[0] >= 0 && firsts[len(firsts)-1] <= f.Sectors-f.Wide
}

// saying returns a note that says something besides.
func saying(n api.Note, content any) api.Note {
	switch x := content.(type) {
	case heap:
		n.Hard = x.hard
	case pass:
		n.Turns = x.turns
	case reading:
		n.Stone, n.A, n.B, n.Diff = x.stone, x.a, x.b, x.diff
	case strokes:
		n.Stone, n.Ring, n.Strokes = x.stone, x.ring, x.firsts
	}
	return n
}
