package books_test

import (
	"fmt"
	"math/rand"
	"reflect"
	"slices"
	"testing"

	"millrind/api"
	"millrind/books"
	"millrind/history"
)

func span(lo, hi int) api.Span { return api.Span{Lo: lo, Hi: hi} }

func name(house, num int) api.Name { return api.Name{House: house, Num: num} }

func fromTo(rng *rand.Rand, from, to int) int { return from + rng.Intn(to-from+1) }

func someSpan(rng *rand.Rand, least, most int) api.Span {
	lo := fromTo(rng, least, most)
	return span(lo, fromTo(rng, lo, most))
}

// aBase is a mill with one ring of two sectors on each stone, on which land cuts on land.
func aBase() api.Base {
	b := api.Base{
		Lift: 10, Top: 20, Grades: []int{0, 1}, Size: span(1, 4), Deep: span(2, 2), Wide: 1,
		Crew:    api.Crew{Caps: []int{3}, Reach: [][]int{{0, 1}}},
		Compass: []api.Point{{X: 1}, {X: -1}},
		Pockets: []api.Pocket{{Arm: api.Point{X: 10}, Most: 5}},
		Tol:     100,
		Train:   api.Train{Meshes: []api.Mesh{{Driver: 8, Driven: 8}}},
		Houses:  1,
	}
	b.Pair.Bed = api.Face{Eye: 1, Rings: 1, Sectors: 2, Kinds: []int{0, 0}}
	b.Pair.Runner = api.Face{Eye: 1, Rings: 1, Sectors: 2, Kinds: []int{0, 0}}
	for kinds := range 9 {
		b.Pair.Drive = append(b.Pair.Drive, []api.Move{{Out: 1, Cut: kinds == 0}})
	}
	for stone := range 2 {
		b.Start[stone] = []api.Span{span(10, 12), span(10, 10)}
		b.Aim[stone] = []api.Span{span(0, 8), span(0, 20)}
	}
	return b
}

// withBase returns the base with a change.
func withBase(change func(b *api.Base)) api.Base {
	b := aBase()
	change(&b)
	return b
}

func event(n api.Note) api.Event { return api.Event{Ref: name(n.House, n.Num), Note: n} }

// reading is an event that reads the height of a cell, or (unless below is -1) by how much it is higher than another one.
func reading(num, stone, cell, below, lo, hi int) api.Event {
	return event(api.Note{House: 1, Num: num, Clock: num, Kind: api.NoteReading, Stone: stone, A: cell, B: below, Diff: span(lo, hi)})
}

func heap(num, lo, hi int) api.Event {
	return event(api.Note{House: 1, Num: num, Clock: num, Kind: api.NoteHeap, Hard: span(lo, hi)})
}

// pass is an event of a pass of the heap with a num.
func pass(num, of, turns int) api.Event {
	return event(api.Note{House: 1, Num: num, Clock: num, Kind: api.NotePass, Ref: name(1, of), Turns: turns})
}

func strokes(num, stone, ring int, firsts ...int) api.Event {
	return event(api.Note{House: 1, Num: num, Clock: num, Kind: api.NoteStrokes, Stone: stone, Ring: ring, Strokes: firsts})
}

func done(events ...api.Event) api.Register { return api.Register{Events: events} }

// known is the register of the chapter's example 4, for the bed.
func known() api.Register { return done(reading(1, 0, 0, -1, 11, 20)) }

// clashing is a register that contradicts the start of a stone.
func clashing(stone int) api.Register { return done(reading(1, stone, 0, -1, 20, 30)) }

// passed is a register of a pass of a heap of unknown hardness, read behind it.
func passed() api.Register {
	r := done(pass(2, 1, 1), reading(3, 0, 1, -1, 5, 8), reading(4, 1, 0, 1, 0, 1))
	r.Heaps = []api.Event{heap(1, 1, 3)}
	return r
}

// badRegisters are registers that are not right.
func badRegisters() map[string]api.Register {
	return map[string]api.Register{
		"too many heaps":              {Heaps: make([]api.Event, 9)},
		"a pass without its heap":     done(pass(2, 1, 1)),
		"a reading of no cell":        done(reading(1, 0, 2, -1, 0, 1)),
		"an event of another name":    done(api.Event{Ref: name(1, 2), Note: reading(1, 0, 0, -1, 0, 1).Note}),
		"two events of one name":      done(reading(1, 0, 0, -1, 0, 1), reading(1, 0, 1, -1, 0, 1)),
		"a heap among the events":     done(heap(1, 1, 2)),
		"a reading among the heaps":   {Heaps: []api.Event{reading(1, 0, 0, -1, 0, 1)}},
		"strokes that do not fit":     done(strokes(1, 0, 0, 2)),
		"an event without any note":   done(api.Event{}),
		"a correction in the events ": done(event(api.Note{House: 1, Num: 1, Clock: 1, Kind: api.NoteCorrect, Ref: name(1, 2), Fix: api.NotePass, Turns: 1})),
	}
}

// longRegister has so many readings, or strokes, on a stone.
func longRegister(stone, readings, steps int) api.Register {
	var r api.Register
	for i := range readings {
		r.Events = append(r.Events, reading(i+1, stone, 0, -1, -1000, 1000))
	}
	for i := range steps {
		r.Events = append(r.Events, strokes(readings+i+1, stone, 0, 0))
	}
	return r
}

// wideRegister has heaps with so many hardnesses each, of which none went through.
func wideRegister(hards ...int) api.Register {
	var r api.Register
	for i, n := range hards {
		r.Heaps = append(r.Heaps, heap(i+1, 1, n))
	}
	return r
}

// badBases are bases that are not valid, each for one of the conditions of layer 8.
func badBases() map[string]api.Base {
	return map[string]api.Base{
		"nothing":                    {},
		"a pair that is not free":    withBase(func(b *api.Base) { b.Pair.Drive[0] = []api.Move{{Cut: true}} }),
		"no grades":                  withBase(func(b *api.Base) { b.Grades = nil }),
		"too short a start":          withBase(func(b *api.Base) { b.Start[1] = b.Start[1][:1] }),
		"too wide":                   withBase(func(b *api.Base) { b.Wide = 3 }),
		"a line that there is not":   withBase(func(b *api.Base) { b.Crew.Reach[0] = []int{2} }),
		"too long a compass":         withBase(func(b *api.Base) { b.Compass = append(b.Compass, api.Point{}) }),
		"no train":                   withBase(func(b *api.Base) { b.Train = api.Train{} }),
		"too many houses":            withBase(func(b *api.Base) { b.Houses = 9 }),
		"rings beyond all, and more": withBase(func(b *api.Base) { b.Pair.Bed.Rings, b.Pair.Bed.Sectors = 1<<62, 1<<62 }),
	}
}

// text is a value as text, in which a nil slice and an empty one are the same.
func text(x any) string { return fmt.Sprintf("%+v", x) }

func want(t *testing.T, what string, got, want any) {
	t.Helper()
	if !reflect.DeepEqual(got, want) && text(got) != text(want) {
		t.Errorf("%s: got %+v, want %+v", what, got, want)
	}
}

// must returns the result of a call, which must have no error.
func must[T any](t *testing.T, what string) func(T, api.Errno) T {
	return func(x T, e api.Errno) T {
		t.Helper()
		if e != api.OK {
			t.Fatalf("%s: error %d", what, e)
		}
		return x
	}
}

// wantError checks an error, with which the result must be zero.
func wantError[T any](t *testing.T, what string, e api.Errno) func(T, api.Errno) {
	return func(got T, g api.Errno) {
		t.Helper()
		var zero T
		want(t, what+": error", g, e)
		want(t, what+": result", got, zero)
	}
}

func build(t *testing.T, b api.Base, r api.Register) api.Book {
	t.Helper()
	return must[api.Book](t, "Build")(books.Build(b, r))
}

// wantFaults checks a book.
func wantFaults(t *testing.T, what string, x api.Book, faults ...api.Fault) {
	t.Helper()
	want(t, what, books.Check(x), faults)
}

func fault(kind, index int) api.Fault { return api.Fault{Kind: kind, Index: index} }

// walk shows a function all parts of a value, each list ahead of its elements.
func walk(v reflect.Value, see func(part reflect.Value)) {
	see(v)
	switch v.Kind() {
	case reflect.Slice, reflect.Array:
		for i := range v.Len() {
			walk(v.Index(i), see)
		}
	case reflect.Struct:
		for i := range v.NumField() {
			walk(v.Field(i), see)
		}
	}
}

// partsOf are all parts of a value that are of some kinds.
func partsOf(v reflect.Value, kinds ...reflect.Kind) []reflect.Value {
	var l []reflect.Value
	walk(v, func(part reflect.Value) {
		if slices.Contains(kinds, part.Kind()) {
			l = append(l, part)
		}
	})
	return l
}

// wantApart checks that no two lists that values hold are one.
func wantApart(t *testing.T, what string, values ...any) {
	t.Helper()
	found := map[uintptr]bool{}
	for _, x := range values {
		for _, list := range partsOf(reflect.ValueOf(x), reflect.Slice) {
			if list.Cap() > 0 && found[list.Pointer()] {
				t.Errorf("%s: two lists are one", what)
			}
			found[list.Pointer()] = true
		}
	}
}

// anyBase is a random base of small stones. Some of its aims are too narrow for any strokes, and some heights are far beyond those of stones.
func anyBase(rng *rand.Rand) api.Base {
	for {
		b := anyPair(rng)
		cells := len(b.Pair.Bed.Kinds)
		far := 0
		if rng.Intn(7) == 0 {
			far = -100090
		}
		for stone := range 2 {
			for range cells {
				lo, aim := fromTo(rng, 90, 104)+far, max(-100000, fromTo(rng, 60, 96)+far)
				b.Start[stone] = append(b.Start[stone], span(lo, lo+rng.Intn(5)))
				b.Aim[stone] = append(b.Aim[stone], span(aim, aim+fromTo(rng, 3, 30)))
			}
		}
		for range b.Pair.Bed.Sectors {
			b.Compass = append(b.Compass, api.Point{X: fromTo(rng, -3, 3), Y: fromTo(rng, -3, 3)})
		}
		if history.CheckBase(b) == api.OK {
			return b
		}
	}
}

// anyPair is a random base without heights and compass.
func anyPair(rng *rand.Rand) api.Base {
	rings, sectors := fromTo(rng, 1, 2), fromTo(rng, 2, 4)
	deep := fromTo(rng, 1, 3)
	b := api.Base{
		Lift: 200, Top: 30, Grades: []int{0, 1, 3}, Size: span(1, 9), Deep: span(deep, deep+rng.Intn(2)), Wide: fromTo(rng, 1, sectors),
		Tol: fromTo(rng, 0, 2000), Houses: fromTo(rng, 1, 3),
	}
	face := func() api.Face {
		f := api.Face{Eye: 1, Rings: rings, Sectors: sectors}
		for range rings * sectors {
			f.Kinds = append(f.Kinds, max(0, rng.Intn(5)-2))
		}
		return f
	}
	b.Pair.Bed, b.Pair.Runner = face(), face()
	for kinds := range 9 {
		moves := []api.Move{{Out: 1, Side: fromTo(rng, -1, 1), Cut: kinds == 0 || rng.Intn(3) == 0}}
		if rng.Intn(4) == 0 {
			moves = append([]api.Move{{Out: rng.Intn(2), Side: -1}}, moves...)
		}
		b.Pair.Drive = append(b.Pair.Drive, moves)
	}
	for range rng.Intn(4) {
		var reach []int
		for line := range 2 * rings {
			if rng.Intn(5) > 0 {
				reach = append(reach, line)
			}
		}
		b.Crew.Caps = append(b.Crew.Caps, fromTo(rng, 1, 9))
		b.Crew.Reach = append(b.Crew.Reach, reach)
	}
	for range rng.Intn(4) {
		b.Pockets = append(b.Pockets, api.Pocket{Arm: api.Point{X: fromTo(rng, -900, 900), Y: fromTo(rng, -900, 900)}, Most: rng.Intn(5)})
	}
	for range fromTo(rng, 1, 2) {
		b.Train.Meshes = append(b.Train.Meshes, api.Mesh{Driver: fromTo(rng, 2, 9), Driven: fromTo(rng, 2, 9), Play: rng.Intn(500)})
	}
	return b
}

// life is what truly happens to both stones of a base: some hardnesses and heights within what the base says, and what each stroke takes.
type life struct {
	rng     *rand.Rand
	base    api.Base
	frame   api.Frame
	hards   map[api.Name]int
	cuts    [2][]int
	heights [2][]int
}

func newLife(rng *rand.Rand, b api.Base) *life {
	f, _ := history.FrameOf(b)
	l := &life{rng: rng, base: b, frame: f, hards: map[api.Name]int{}, cuts: cutsOf(b)}
	for stone := range 2 {
		for _, h := range b.Start[stone] {
			l.heights[stone] = append(l.heights[stone], fromTo(rng, h.Lo, h.Hi))
		}
	}
	return l
}

// cutsOf counts, cell by cell, the turns at which a move of the state there cuts.
func cutsOf(b api.Base) [2][]int {
	p := b.Pair
	sectors := p.Bed.Sectors
	cuts := [2][]int{make([]int, len(p.Bed.Kinds)), make([]int, len(p.Bed.Kinds))}
	for bed := range p.Bed.Kinds {
		for turn := range sectors {
			over := bed - bed%sectors + (bed%sectors-turn+sectors)%sectors
			moves := p.Drive[3*p.Bed.Kinds[bed]+p.Runner.Kinds[over]]
			if slices.ContainsFunc(moves, func(m api.Move) bool { return m.Cut }) {
				cuts[0][bed]++
				cuts[1][over]++
			}
		}
	}
	return cuts
}

// do lets what a note tells happen.
func (l *life) do(n api.Note) {
	switch n.Kind {
	case api.NoteHeap:
		l.hards[name(n.House, n.Num)] = fromTo(l.rng, n.Hard.Lo, n.Hard.Hi)
	case api.NotePass:
		for stone := range 2 {
			for cell, cuts := range l.cuts[stone] {
				l.heights[stone][cell] -= n.Turns * cuts * l.hards[n.Ref]
			}
		}
	case api.NoteStrokes:
		for _, first := range n.Strokes {
			for cell := range l.frame.Wide {
				l.heights[n.Stone][n.Ring*l.frame.Sectors+first+cell] -= fromTo(l.rng, l.base.Deep.Lo, l.base.Deep.Hi)
			}
		}
	}
}

// read is a note that reads a cell, or two of them, as they are, if it is not off.
func (l *life) read(off int) api.Note {
	n := api.Note{Kind: api.NoteReading, Stone: l.rng.Intn(2), A: l.rng.Intn(len(l.heights[0])), B: -1}
	is := l.heights[n.Stone][n.A]
	if below := l.rng.Intn(len(l.heights[0])); below != n.A {
		n.B = below
		is -= l.heights[n.Stone][below]
	}
	n.Diff = span(is+off-l.rng.Intn(3), is+off+l.rng.Intn(3))
	return n
}

// any is the next note of a house; ref is a heap.
func (l *life) any(kind int, ref api.Name) api.Note {
	n := api.Note{Kind: kind}
	switch kind {
	case api.NoteHeap:
		n.Hard = someSpan(l.rng, 1, 3)
	case api.NotePass:
		n.Ref, n.Turns = ref, 1
	case api.NoteReading:
		n = l.read(0)
	case api.NoteStrokes:
		n.Stone, n.Ring = l.rng.Intn(2), l.rng.Intn(l.frame.Rings)
		for range fromTo(l.rng, 1, 3) {
			n.Strokes = append(n.Strokes, l.rng.Intn(l.frame.Sectors-l.frame.Wide+1))
		}
		slices.Sort(n.Strokes)
	}
	return n
}

// anyNotes are notes of one house about a life: a heap or two, and what happens then. Some of them end with a reading that is off.
func anyNotes(l *life) []api.Note {
	var notes []api.Note
	add := func(n api.Note) {
		n.House, n.Num, n.Clock, n.Day = 1, len(notes)+1, len(notes)+1, len(notes)
		notes = append(notes, n)
		l.do(n)
	}
	heaps := fromTo(l.rng, 1, 2)
	for range heaps {
		add(l.any(api.NoteHeap, api.Name{}))
	}
	for range l.rng.Intn(6) {
		add(l.any(fromTo(l.rng, 2, 4), name(1, fromTo(l.rng, 1, heaps))))
	}
	if l.rng.Intn(7) == 0 {
		add(l.read(some(l.rng, -9, -40, 40, 9)))
	}
	return notes
}

func some(rng *rand.Rand, l ...int) int { return l[rng.Intn(len(l))] }

func fold(t *testing.T, b api.Base, notes []api.Note) api.Register {
	t.Helper()
	f := must[api.Frame](t, "FrameOf")(history.FrameOf(b))
	return must[api.Register](t, "Fold")(history.Fold(f, notes))
}

// mill is a random base, notes about it, and the life that they tell of.
type mill struct {
	base  api.Base
	notes []api.Note
	life  *life
}

// eachMill calls a function for many mills, always the same ones, until one fails.
func eachMill(t *testing.T, count int, f func(rng *rand.Rand, m mill)) {
	t.Helper()
	for seed := range count {
		rng := rand.New(rand.NewSource(int64(seed)))
		l := newLife(rng, anyBase(rng))
		m := mill{l.base, anyNotes(l), l}
		if f(rng, m); t.Failed() {
			t.Fatalf("the mill %d is %+v with the notes %+v", seed, m.base, m.notes)
		}
	}
}
