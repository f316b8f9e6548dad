package tallies_test

import (
	"bytes"
	"math/rand"
	"slices"
	"testing"

	"millrind/api"
	"millrind/tallies"
)

func encoded(t *testing.T, n api.Note) []byte {
	t.Helper()
	return must[[]byte](t, "Encode")(tallies.Encode(frame(), n))
}

// P9.1, T1: encodings byte by byte, with the chapter's numbers among them.
func TestEncodings(t *testing.T) {
	for what, b := range map[string][]byte{
		"a heap":         {2, 4, 6, 10, 2, 0, 0, 0, 4, 8, 0, 0, 0, 0, 0, 0, 0, 0, 0},
		"a pass":         {16, 160, 6, 128, 128, 128, 128, 128, 64, 190, 154, 12, 4, 0, 0, 6, 0, 0, 0, 0, 0, 0, 0, 0, 14, 158, 6, 0},
		"a reading":      {4, 128, 1, 126, 0, 6, 0, 0, 0, 0, 0, 129, 1, 128, 1, 2, 1, 0, 0, 0, 0, 0},
		"strokes":        {6, 128, 2, 128, 128, 1, 128, 1, 8, 2, 0, 0, 0, 0, 0, 0, 0, 0, 2, 6, 0, 0, 4, 0, 0, 0},
		"a fixed pass":   {10, 2, 2, 4, 10, 0, 0, 10, 0, 0, 0, 0, 0, 0, 0, 0, 6, 4, 4},
		"a withdrawal":   {16, 2, 2, 10, 12, 0, 0, 0, 0, 0, 0, 0, 0, 0, 0, 0, 6, 10, 0},
		"a wide reading": {4, 130, 1, 254, 127, 0, 6, 2, 0, 0, 0, 0, 255, 167, 214, 185, 7, 128, 168, 214, 185, 7, 0, 14, 0, 0, 0, 0, 0},
	} {
		want(t, what, encoded(t, examples()[what]), b)
	}
	for what, n := range examples() {
		want(t, what+" of the model", encoded(t, n), modelNote(n))
	}
}

// P9.1, T1: the limits of a frame are those of its notes, and a long list has a long length.
func TestLargeEncodings(t *testing.T) {
	f := api.Frame{Rings: 24, Sectors: 96, Wide: 1}
	n := by(1, 1, 1, api.Note{Kind: api.NoteStrokes, Ring: 23, Strokes: slices.Repeat([]int{95}, 200)})
	b := must[[]byte](t, "Encode")(tallies.Encode(f, n))
	want(t, "the largest note", b, modelNote(n))
	want(t, "decoded", must[api.Note](t, "Decode")(tallies.Decode(f, b)), n)
	wantError[[]byte](t, "the note in a small frame", api.ErrNote)(tallies.Encode(frame(), n))
	wantError[api.Note](t, "its bytes in a small frame", api.ErrCode)(tallies.Decode(frame(), b))
}

// illFormed are changes by which no example is well-formed.
func illFormed() map[string]func(n *api.Note) {
	return map[string]func(n *api.Note){
		"nothing":           func(n *api.Note) { *n = api.Note{} },
		"no house":          func(n *api.Note) { n.House = 0 },
		"a house too great": func(n *api.Note) { n.House = 9 },
		"no num":            func(n *api.Note) { n.Num = 0 },
		"a num too great":   func(n *api.Note) { n.Num = 401 },
		"no clock":          func(n *api.Note) { n.Clock = 0 },
		"a late clock":      func(n *api.Note) { n.Clock = 1<<40 + 1 },
		"a day below 0":     func(n *api.Note) { n.Day = -1 },
		"a kind too great":  func(n *api.Note) { n.Kind = 7 },
		"a heap":            func(n *api.Note) { n.Heap = 1 },
		"a large number":    func(n *api.Note) { n.A = 1<<62 - 1 },
		"a small number":    func(n *api.Note) { n.B = -1 << 62 },
		"a wrong ref":       func(n *api.Note) { n.Ref = name(9, 1) },
		"too many strokes":  func(n *api.Note) { n.Strokes = make([]int, 201) },
		"a stroke too far":  func(n *api.Note) { n.Strokes = []int{3} },
	}
}

// P9.1, T1, T2: a note that is not well-formed has no encoding, and its bytes are none; nor is there one in a frame that is not valid.
func TestIllFormedCodes(t *testing.T) {
	for what, n := range examples() {
		for which, change := range illFormed() {
			x := n
			change(&x)
			wantError[[]byte](t, what+", "+which, api.ErrNote)(tallies.Encode(frame(), x))
			wantError[api.Note](t, what+", bytes of "+which, api.ErrCode)(tallies.Decode(frame(), modelNote(x)))
		}
		for which, f := range badFrames() {
			wantError[[]byte](t, what+", "+which, api.ErrNote)(tallies.Encode(f, n))
			wantError[api.Note](t, what+", bytes in "+which, api.ErrCode)(tallies.Decode(f, modelNote(n)))
		}
	}
}

// cut returns bytes with others in place of some.
func cut(b []byte, from, to int, others ...byte) []byte {
	return slices.Concat(b[:from], others, b[to:])
}

// P9.1, T2: bytes that are too few, too many, longer than is needed, or beyond the numbers.
func TestDecodeErrors(t *testing.T) {
	for what, n := range examples() {
		b := encoded(t, n)
		want(t, what, must[api.Note](t, what)(tallies.Decode(frame(), b)), n)
		for i := range b {
			wantError[api.Note](t, what+" is torn", api.ErrCode)(tallies.Decode(frame(), b[:i]))
			wantError[api.Note](t, what+" begins late", api.ErrCode)(tallies.Decode(frame(), b[i+1:]))
		}
		for _, more := range [][]byte{{0}, {128}, {2}, b} {
			wantError[api.Note](t, what+" and more", api.ErrCode)(tallies.Decode(frame(), slices.Concat(b, more)))
			wantError[api.Note](t, "more and "+what, api.ErrCode)(tallies.Decode(frame(), slices.Concat(more, b)))
		}
	}
	b := []byte{2, 4, 6, 10, 2, 0, 0, 0, 4, 8, 0, 0, 0, 0, 0, 0, 0, 0, 0}
	ones := bytes.Repeat([]byte{255}, 8)
	for what, x := range map[string][]byte{
		"a house of two bytes":          cut(b, 0, 1, 130, 0),
		"a house of three bytes":        cut(b, 0, 1, 130, 128, 0),
		"a zero of two bytes":           cut(b, 5, 6, 128, 0),
		"a last zero of two bytes":      cut(b, 18, 19, 128, 0),
		"a number without an end":       cut(b, 18, 19, 128),
		"the house and 2^63":            cut(b, 0, 1, 130, 128, 128, 128, 128, 128, 128, 128, 128, 1),
		"the house and 2^64":            cut(b, 0, 1, 130, 128, 128, 128, 128, 128, 128, 128, 128, 2),
		"the house and 2^70":            cut(b, 0, 1, 130, 128, 128, 128, 128, 128, 128, 128, 128, 128, 1),
		"the greatest number":           cut(b, 0, 1, slices.Concat([]byte{254}, ones[:7], []byte{127})...),
		"a zero of ten bytes":           cut(b, 5, 6, append(bytes.Repeat([]byte{128}, 9), 0)...),
		"a negative list":               cut(b, 15, 16, 1),
		"a list that takes the rest":    cut(b, 15, 16, 6),
		"a list longer than the bytes":  cut(b, 15, 16, 8),
		"the longest list":              cut(b, 15, 16, slices.Concat([]byte{254}, ones[:7], []byte{127})...),
		"the list of the least length":  cut(b, 15, 16, slices.Concat([]byte{255}, ones[:7], []byte{127})...),
		"a list without an element":     cut(b, 15, 16, 2),
		"an element of two bytes":       {2, 4, 6, 10, 8, 0, 0, 0, 0, 0, 0, 0, 0, 0, 0, 2, 128, 0, 0, 0, 0},
		"ones alone":                    bytes.Repeat([]byte{255}, 40),
		"zeros alone":                   make([]byte, 19),
		"a hundred thousand more zeros": append(slices.Clone(b), make([]byte, 100000)...),
	} {
		wantError[api.Note](t, what, api.ErrCode)(tallies.Decode(frame(), x))
	}
}

// P9.3: Encode and Decode undo each other, also if bytes are changed at random.
func TestCodes(t *testing.T) {
	rng := rand.New(rand.NewSource(93))
	right, wrong := 0, 0
	for range 40000 {
		n := by(fromTo(rng, 1, 8), fromTo(rng, 1, 400), 1+rng.Intn(1<<uint(fromTo(rng, 1, 39))), someNote(rng, fromTo(rng, 1, 6), 8))
		b := encoded(t, n)
		want(t, "Encode", b, modelNote(n))
		want(t, "Decode", must[api.Note](t, "Decode")(tallies.Decode(frame(), b)), n)
		for range rng.Intn(3) {
			switch at := rng.Intn(len(b)); rng.Intn(4) {
			case 0:
				b[at] ^= 1 << rng.Intn(8)
			case 1:
				b = cut(b, at, at, byte(rng.Intn(256)))
			case 2:
				b = cut(b, at, at+1)
			case 3:
				b[at] += 2
			}
		}
		expected, is := modelDecoded(b)
		if !is {
			wrong++
			wantError[api.Note](t, "Decode of changed bytes", api.ErrCode)(tallies.Decode(frame(), b))
			continue
		}
		right++
		got := must[api.Note](t, "Decode of changed bytes")(tallies.Decode(frame(), b))
		want(t, "Decode of changed bytes", got, expected)
		want(t, "Encode of what was decoded", encoded(t, got), b)
	}
	if right < 10000 || wrong < 10000 {
		t.Errorf("%d bytes are notes, and %d are none", right, wrong)
	}
}

// R7: bytes and notes are neither changed nor kept.
func TestCodesAreNew(t *testing.T) {
	n := examples()["strokes"]
	b := encoded(t, n)
	first, second := must[api.Note](t, "Decode")(tallies.Decode(frame(), b)), encoded(t, n)
	clear(b)
	n.Strokes[0] = 2
	want(t, "the note", first, examples()["strokes"])
	want(t, "the bytes", second, modelNote(first))
}
