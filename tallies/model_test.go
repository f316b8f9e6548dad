package tallies_test

import (
	"bytes"
	"cmp"
	"fmt"
	"math"
	"math/rand"
	"reflect"
	"slices"
	"testing"

	"millrind/api"
	"millrind/history"
)

// frame is that of the history chapter's examples.
func frame() api.Frame { return api.Frame{Rings: 2, Sectors: 4, Wide: 2} }

func badFrames() map[string]api.Frame {
	return map[string]api.Frame{
		"no frame":         {},
		"no rings":         {Rings: 0, Sectors: 4, Wide: 2},
		"too many rings":   {Rings: 25, Sectors: 4, Wide: 2},
		"one sector":       {Rings: 2, Sectors: 1, Wide: 1},
		"too many sectors": {Rings: 2, Sectors: 97, Wide: 2},
		"no width":         {Rings: 2, Sectors: 4, Wide: 0},
		"too wide":         {Rings: 2, Sectors: 4, Wide: 5},
		"beyond all":       {Rings: math.MaxInt, Sectors: math.MaxInt, Wide: math.MaxInt},
		"below all":        {Rings: math.MinInt, Sectors: math.MinInt, Wide: math.MinInt},
	}
}

func name(house, num int) api.Name { return api.Name{House: house, Num: num} }

func nameOf(n api.Note) api.Name { return name(n.House, n.Num) }

func span(lo, hi int) api.Span { return api.Span{Lo: lo, Hi: hi} }

func heap(day int) api.Note { return api.Note{Day: day, Kind: api.NoteHeap, Hard: span(2, 4)} }

func pass(day, house, num int) api.Note {
	return api.Note{Day: day, Kind: api.NotePass, Ref: name(house, num), Turns: 3}
}

func reading(day int) api.Note {
	return api.Note{Day: day, Kind: api.NoteReading, A: 1, B: -1, Diff: span(-65, 64)}
}

func strokes(day int, firsts ...int) api.Note {
	return api.Note{Day: day, Kind: api.NoteStrokes, Stone: 1, Ring: 1, Strokes: firsts}
}

func fixPass(day, house, num int) api.Note {
	return api.Note{Day: day, Kind: api.NoteCorrect, Ref: name(house, num), Fix: api.NotePass, Turns: 5}
}

func fixReading(day, house, num int) api.Note {
	n := reading(day)
	n.Kind, n.Ref, n.Fix = api.NoteCorrect, name(house, num), api.NoteReading
	return n
}

func fixHeap(day, house, num int) api.Note {
	return api.Note{Day: day, Kind: api.NoteCorrect, Ref: name(house, num), Fix: api.NoteHeap, Hard: span(1, 9)}
}

func fixStrokes(day, house, num int, firsts ...int) api.Note {
	return api.Note{Day: day, Kind: api.NoteCorrect, Ref: name(house, num), Fix: api.NoteStrokes, Strokes: firsts}
}

func withdrawal(day, house, num int) api.Note {
	return api.Note{Day: day, Kind: api.NoteWithdraw, Ref: name(house, num)}
}

// by gives a note its house, its num and its clock.
func by(house, num, clock int, n api.Note) api.Note {
	n.House, n.Num, n.Clock = house, num, clock
	return n
}

// examples are notes of each kind, and corrections of each kind.
func examples() map[string]api.Note {
	return map[string]api.Note{
		"a heap":          by(1, 2, 3, heap(5)),
		"a pass":          by(8, 400, 1<<40, pass(99999, 7, 399)),
		"a reading":       by(2, 64, 63, reading(0)),
		"a wide reading":  by(2, 65, 8191, api.Note{Kind: api.NoteReading, Stone: 1, A: 0, B: 7, Diff: span(-1000000000, 1000000000)}),
		"strokes":         by(3, 128, 8192, strokes(64, 0, 0, 2)),
		"many strokes":    by(3, 129, 16384, strokes(63, make([]int, 200)...)),
		"a fixed heap":    by(4, 1, 1, fixHeap(1, 3, 1)),
		"a fixed pass":    by(5, 1, 1, fixPass(2, 3, 2)),
		"a fixed reading": by(6, 1, 1, fixReading(3, 3, 3)),
		"fixed strokes":   by(7, 1, 1, fixStrokes(4, 3, 4, 1)),
		"a withdrawal":    by(8, 1, 1, withdrawal(5, 3, 5)),
	}
}

func fromTo(rng *rand.Rand, from, to int) int { return from + rng.Intn(to-from+1) }

// someFlip is a bit of some bytes, none (-1), or now and then one out of bounds.
func someFlip(rng *rand.Rand, size int) int {
	switch rng.Intn(12) {
	case 0:
		return -2
	case 1:
		return 8 * size
	case 2, 3, 4, 5:
		return -1
	}
	return rng.Intn(8 * max(1, size))
}

// someNote is what a house may do, or try to do, of a kind.
func someNote(rng *rand.Rand, kind, houses int) api.Note {
	n := api.Note{Day: rng.Intn(6), Kind: kind}
	if kind == api.NotePass || kind >= api.NoteCorrect {
		n.Ref = name(fromTo(rng, 1, houses), fromTo(rng, 1, 6))
	}
	if kind == api.NoteCorrect {
		n.Fix = fromTo(rng, 1, 4)
		kind = n.Fix
	}
	switch kind {
	case api.NoteHeap:
		n.Hard = span(fromTo(rng, 1, 99), fromTo(rng, 99, 255))
	case api.NotePass:
		n.Turns = fromTo(rng, 1, 10000)
	case api.NoteReading:
		n.Stone, n.A, n.B, n.Diff = rng.Intn(2), fromTo(rng, 4, 7), fromTo(rng, -1, 3), span(-rng.Intn(1000), rng.Intn(1000))
	case api.NoteStrokes:
		n.Stone, n.Ring = rng.Intn(2), rng.Intn(2)
		for range fromTo(rng, 1, 5) {
			n.Strokes = append(n.Strokes, rng.Intn(3))
		}
		slices.Sort(n.Strokes)
	}
	return n
}

// modelNumbers encodes numbers, each by dividing it.
func modelNumbers(numbers ...int) []byte {
	var b []byte
	for _, n := range numbers {
		u := uint64(n) * 2
		if n < 0 {
			u = uint64(-(n+1))*2 + 1
		}
		for ; u >= 128; u /= 128 {
			b = append(b, byte(128+u%128))
		}
		b = append(b, byte(u))
	}
	return b
}

// modelNote encodes a note of any form.
func modelNote(n api.Note) []byte {
	b := modelNumbers(n.House, n.Num, n.Clock, n.Day, n.Kind, n.Stone, n.Heap, n.Turns)
	b = append(b, modelNumbers(n.Hard.Lo, n.Hard.Hi, n.Diff.Lo, n.Diff.Hi, n.A, n.B, n.Ring, len(n.Strokes))...)
	return append(append(b, modelNumbers(n.Strokes...)...), modelNumbers(n.Ref.House, n.Ref.Num, n.Fix)...)
}

// modelDecoded cuts bytes into numbers, and makes the only note of these that there can be.
func modelDecoded(b []byte) (n api.Note, is bool) {
	var l []int
	for len(b) > 0 {
		end := slices.IndexFunc(b, func(x byte) bool { return x < 128 }) + 1
		if end == 0 || end > 9 || end > 1 && b[end-1] == 0 {
			return n, false
		}
		u := 0
		for _, x := range slices.Backward(b[:end]) {
			u = u*128 + int(x%128)
		}
		if u%2 == 0 {
			l = append(l, u/2)
		} else {
			l = append(l, -(u/2)-1)
		}
		b = b[end:]
	}
	if len(l) < 19 || l[15] != len(l)-19 {
		return n, false
	}
	end := len(l) - 3
	n = api.Note{
		House: l[0], Num: l[1], Clock: l[2], Day: l[3], Kind: l[4], Stone: l[5], Heap: l[6], Turns: l[7],
		Hard: span(l[8], l[9]), Diff: span(l[10], l[11]), A: l[12], B: l[13], Ring: l[14], Strokes: l[16:end],
		Ref: name(l[end], l[end+1]), Fix: l[end+2],
	}
	return n, history.CheckNote(frame(), n) == api.OK
}

// modelHalves are both halves of the tally of bytes.
func modelHalves(b []byte) (stock, foil []byte) {
	check := 1
	for i, x := range b {
		check = (check + (i+1)*int(x)) % 65521
	}
	size := []byte{byte(len(b) % 256), byte(len(b) / 256)}
	return append(slices.Clone(size), b...), append(size, byte(check%256), byte(check/256))
}

// modelJournals are the halves of the tallies of all bytes, one after the other.
func modelJournals(l [][]byte) (stock, foil []byte) {
	for _, b := range l {
		s, f := modelHalves(b)
		stock, foil = append(stock, s...), append(foil, f...)
	}
	return stock, foil
}

// modelJoin asks, for the size with which the stock goes on, whether both journals go on with the halves of these bytes.
func modelJoin(stock, foil []byte) (l [][]byte, s, f int) {
	for len(stock) >= s+2 {
		size := int(stock[s]) + 256*int(stock[s+1])
		if size > 8192 || len(stock) < s+2+size {
			break
		}
		half, other := modelHalves(stock[s+2 : s+2+size])
		if !bytes.HasPrefix(stock[s:], half) || !bytes.HasPrefix(foil[f:], other) {
			break
		}
		l = append(l, half[2:])
		s, f = s+len(half), f+len(other)
	}
	return l, s, f
}

// modelHouse is a house as the notes that it added, in this order, of which the first ones were synced.
type modelHouse struct {
	id, synced int
	added      []api.Note
}

func (m *modelHouse) find(x api.Name) (api.Note, bool) {
	for _, n := range m.added {
		if nameOf(n) == x {
			return n, true
		}
	}
	return api.Note{}, false
}

func (m *modelHouse) counts() []int {
	counts := make([]int, 8)
	for _, n := range m.added {
		counts[n.House-1]++
	}
	return counts
}

func (m *modelHouse) set() []api.Note {
	return slices.SortedFunc(slices.Values(m.added), func(a, b api.Note) int {
		return cmp.Or(cmp.Compare(a.House, b.House), cmp.Compare(a.Num, b.Num))
	})
}

func (m *modelHouse) missing(counts []int) []api.Note {
	var l []api.Note
	for _, n := range m.set() {
		if n.House > len(counts) || n.Num > counts[n.House-1] {
			l = append(l, n)
		}
	}
	return l
}

func (m *modelHouse) sync() { m.synced = len(m.added) }

// next is a note as the house would do it.
func (m *modelHouse) next(n api.Note) api.Note {
	n = by(m.id, 1, 1, n)
	for _, x := range m.added {
		n.Clock = max(n.Clock, x.Clock+1)
		if x.House == m.id {
			n.Num = max(n.Num, x.Num+1)
		}
	}
	return n
}

func (m *modelHouse) do(n api.Note) (api.Note, api.Errno) {
	n = m.next(n)
	if len(m.added) >= 400 || n.Clock > 1<<40 {
		return api.Note{}, api.ErrLimit
	}
	if history.CheckNote(frame(), n) != api.OK {
		return api.Note{}, api.ErrNote
	}
	with := modelHouse{added: append(slices.Clone(m.added), n)}
	r, _ := history.Fold(frame(), with.set())
	if n.Kind <= 4 && slices.Contains(r.Conflicts, nameOf(n)) {
		return api.Note{}, api.ErrPlace
	}
	m.added = with.added
	return n, api.OK
}

// hear is not clear of a note that is passed over, if another one of its name is added behind it.
func (m *modelHouse) hear(l []api.Note) (added int, e api.Errno, clear bool) {
	for _, n := range l {
		if history.CheckNote(frame(), n) != api.OK {
			return 0, api.ErrNote, true
		}
	}
	with := modelHouse{id: m.id, synced: m.synced, added: slices.Clone(m.added)}
	clear = true
	for i, n := range l {
		known, is := with.find(nameOf(n))
		switch {
		case is && string(modelNote(n)) != string(modelNote(known)):
			return 0, api.ErrFork, true
		case !is && n.Num == with.counts()[n.House-1]+1:
			with.added = append(with.added, n)
		case !is:
			clear = clear && !slices.ContainsFunc(l[i:], func(x api.Note) bool {
				return nameOf(x) == nameOf(n) && string(modelNote(x)) != string(modelNote(n))
			})
		}
	}
	if len(with.added) > 400 {
		return 0, api.ErrLimit, clear
	}
	added = len(with.added) - len(m.added)
	*m = with
	return added, api.OK, clear
}

// pending is how many bytes are pending in the stock journal and in the foil journal.
func (m *modelHouse) pending() (stock, foil int) {
	for _, n := range m.added[m.synced:] {
		stock, foil = stock+2+len(modelNote(n)), foil+4
	}
	return stock, foil
}

// crash keeps each note that was synced, and then as many as have both halves whole.
func (m *modelHouse) crash(stock, foil, flip int) api.Errno {
	s, f := m.pending()
	if stock < 0 || stock > s || foil < 0 || foil > f || flip < -1 || flip >= 8*(stock+foil) {
		return api.ErrArg
	}
	s, f = 0, 0
	for _, n := range m.added[m.synced:] {
		size := 2 + len(modelNote(n))
		inStock := flip >= 8*s && flip < 8*(s+size)
		inFoil := flip >= 8*(stock+f) && flip < 8*(stock+f+4)
		if s += size; s > stock {
			break
		}
		if f += 4; f > foil || inStock || inFoil {
			break
		}
		m.synced++
	}
	m.added = m.added[:m.synced]
	return api.OK
}

// modelMail is a message: an ask with counts, or a gift of notes.
type modelMail struct {
	from, to int
	counts   []int
	notes    []api.Note
}

func (m modelMail) body() []byte {
	if m.counts != nil {
		return modelNumbers(slices.Concat([]int{1, len(m.counts)}, m.counts)...)
	}
	b := modelNumbers(2, len(m.notes))
	for _, n := range m.notes {
		x := modelNote(n)
		b = append(append(b, modelNumbers(len(x))...), x...)
	}
	return b
}

type modelWorld struct {
	houses []*modelHouse
	mails  []modelMail
}

func newModelWorld(n int) *modelWorld {
	w := &modelWorld{}
	for id := 1; id <= n; id++ {
		w.houses = append(w.houses, &modelHouse{id: id})
	}
	return w
}

func (w *modelWorld) names(a api.Act) bool {
	has := func(house int) bool { return house >= 1 && house <= len(w.houses) }
	switch a.Kind {
	case 1, 2, 7:
		return has(a.House)
	case 3:
		return has(a.House) && has(a.To) && a.House != a.To
	}
	return a.Kind >= 4 && a.Kind <= 6
}

func (w *modelWorld) step(a api.Act) api.Errno {
	if !w.names(a) {
		return api.ErrArg
	}
	if a.Kind >= 4 && a.Kind <= 6 {
		return w.mail(a)
	}
	h := w.houses[a.House-1]
	switch a.Kind {
	case 1:
		n, e := h.do(a.Note)
		if n.Kind == 2 || n.Kind == 4 {
			h.sync()
		}
		return e
	case 2:
		h.sync()
	case 3:
		if len(w.mails) >= 64 {
			return api.ErrLimit
		}
		w.mails = append(w.mails, modelMail{from: a.House, to: a.To, counts: h.counts()})
	case 7:
		return h.crash(a.Keep, a.Flip, a.Index)
	}
	return api.OK
}

func (w *modelWorld) mail(a api.Act) api.Errno {
	if a.Index < 0 || a.Index >= len(w.mails) {
		return api.ErrNone
	}
	m := w.mails[a.Index]
	if a.Kind == 6 {
		if len(w.mails) >= 64 {
			return api.ErrLimit
		}
		w.mails = append(w.mails, m)
		return api.OK
	}
	to := w.houses[m.to-1]
	if a.Kind == 4 && m.counts == nil {
		if _, e, _ := to.hear(m.notes); e != api.OK {
			return e
		}
	}
	w.mails = slices.Delete(slices.Clone(w.mails), a.Index, a.Index+1)
	if a.Kind == 4 && m.counts != nil {
		to.sync()
		if l := to.missing(m.counts); len(l) > 0 {
			w.mails = append(w.mails, modelMail{from: m.to, to: m.from, notes: l[:min(len(l), 16)]})
		}
	}
	return api.OK
}

// all returns the notes of all houses.
func (w *modelWorld) all() []api.Note {
	var all modelHouse
	for _, h := range w.houses {
		for _, n := range h.added {
			if _, is := all.find(nameOf(n)); !is {
				all.added = append(all.added, n)
			}
		}
	}
	return all.set()
}

func (w *modelWorld) settle() api.Errno {
	all := w.all()
	if len(all) > 400 {
		return api.ErrLimit
	}
	for _, h := range w.houses {
		h.added = all
		h.sync()
	}
	return api.OK
}

// text is a value as text, in which a nil slice and an empty one are the same.
func text(x any) string { return fmt.Sprintf("%+v", x) }

func want(t *testing.T, what string, got, want any) {
	t.Helper()
	if !reflect.DeepEqual(got, want) && text(got) != text(want) {
		t.Errorf("%s: got %+v, want %+v", what, got, want)
	}
}

// must returns the result of a call, which must have no error.
func must[T any](t *testing.T, what string) func(T, api.Errno) T {
	return func(x T, e api.Errno) T {
		t.Helper()
		if e != api.OK {
			t.Fatalf("%s: error %d", what, e)
		}
		return x
	}
}

// wantError checks an error, with which the result must be zero.
func wantError[T any](t *testing.T, what string, e api.Errno) func(T, api.Errno) {
	return func(got T, g api.Errno) {
		t.Helper()
		var zero T
		want(t, what+": error", g, e)
		want(t, what+": result", got, zero)
	}
}
