package history_test

import (
	"math/rand"
	"reflect"
	"slices"
	"testing"

	"millrind/api"
	"millrind/history"
)

// frame is that of the chapter's examples.
func frame() api.Frame { return api.Frame{Rings: 2, Sectors: 4, Wide: 2} }

func name(house, num int) api.Name { return api.Name{House: house, Num: num} }

func span(lo, hi int) api.Span { return api.Span{Lo: lo, Hi: hi} }

func fromTo(rng *rand.Rand, from, to int) int { return from + rng.Intn(to-from+1) }

// someSpan is a span between two numbers.
func someSpan(rng *rand.Rand, least, most int) api.Span {
	lo := fromTo(rng, least, most)
	return span(lo, fromTo(rng, lo, most))
}

// tell gives a note content of a kind for the frame.
func tell(rng *rand.Rand, n api.Note, kind int) api.Note {
	switch kind {
	case api.NoteHeap:
		n.Hard = someSpan(rng, 1, 4)
	case api.NotePass:
		n.Turns = fromTo(rng, 1, 9)
	case api.NoteReading:
		n.Stone, n.A, n.Diff = rng.Intn(2), rng.Intn(8), someSpan(rng, -50, 50)
		for n.B = n.A; n.B == n.A; {
			n.B = fromTo(rng, -1, 7)
		}
	case api.NoteStrokes:
		n.Stone, n.Ring = rng.Intn(2), rng.Intn(2)
		for range fromTo(rng, 1, 4) {
			n.Strokes = append(n.Strokes, rng.Intn(3))
		}
		slices.Sort(n.Strokes)
	}
	return n
}

// some returns one of the elements.
func some(rng *rand.Rand, l ...int) int { return l[rng.Intn(len(l))] }

// anyNote is a random note for the frame, of a kind out of some; its clock, its day and the note that it names are often those of others too.
func anyNote(rng *rand.Rand, house, num, clock int, kinds []int) api.Note {
	n := api.Note{House: house, Num: num, Clock: fromTo(rng, 1, clock), Day: rng.Intn(5), Kind: some(rng, kinds...)}
	if n.Kind == api.NotePass || n.Kind >= api.NoteCorrect {
		n.Ref = name(fromTo(rng, 1, 3), fromTo(rng, 1, 6))
	}
	if n.Kind == api.NoteCorrect {
		n.Fix = fromTo(rng, 1, 4)
		return tell(rng, n, n.Fix)
	}
	return tell(rng, n, n.Kind)
}

// anySet is a random set for the frame; some have many heaps, some have many changes of the same notes.
func anySet(rng *rand.Rand) []api.Note {
	kinds := [][]int{{1, 2, 2, 3, 4, 5, 6}, {1, 1, 1, 2, 5}, {1, 2, 3, 4, 5, 5, 5, 6}}[rng.Intn(3)]
	clock := some(rng, 2, 9, 99)
	var l []api.Note
	for house := 1; house <= 3; house++ {
		for num := 1; num <= 8; num++ {
			if rng.Intn(4) > 0 {
				l = append(l, anyNote(rng, house, num, clock, kinds))
			}
		}
	}
	return l
}

// eachSet calls a function for many sets, always the same ones, until one fails.
func eachSet(t *testing.T, count int, f func(rng *rand.Rand, l []api.Note)) {
	t.Helper()
	for seed := range count {
		rng := rand.New(rand.NewSource(int64(seed)))
		l := anySet(rng)
		if f(rng, l); t.Failed() {
			t.Fatalf("the set %d is %+v", seed, l)
		}
	}
}

func isChange(n api.Note) bool { return n.Kind == 5 || n.Kind == 6 }

func within(n, from, to int) bool { return n >= from && n <= to }

func isRight(x api.Name) bool { return within(x.House, 1, 8) && within(x.Num, 1, 400) }

// modelContent reports whether a note has the content of a kind, and takes this away.
func modelContent(f api.Frame, n *api.Note, kind int) bool {
	is := false
	switch kind {
	case 1:
		is = within(n.Hard.Lo, 1, n.Hard.Hi) && n.Hard.Hi <= 255
		n.Hard = api.Span{}
	case 2:
		is = within(n.Turns, 1, 10000)
		n.Turns = 0
	case 3:
		last := f.Rings*f.Sectors - 1
		is = within(n.Stone, 0, 1) && within(n.A, 0, last) && within(n.B, -1, last) && n.A != n.B
		is = is && within(n.Diff.Lo, -1000000000, n.Diff.Hi) && n.Diff.Hi <= 1000000000
		n.Stone, n.A, n.B, n.Diff = 0, 0, 0, api.Span{}
	case 4:
		is = within(n.Stone, 0, 1) && within(n.Ring, 0, f.Rings-1) && within(len(n.Strokes), 1, 200)
		for i, x := range n.Strokes {
			is = is && within(x, 0, f.Sectors-f.Wide) && (i == 0 || x >= n.Strokes[i-1])
		}
		n.Stone, n.Ring, n.Strokes = 0, 0, nil
	}
	return is
}

// modelWellFormed takes away what the table names, so that nothing may be left.
func modelWellFormed(f api.Frame, n api.Note) bool {
	is := isRight(name(n.House, n.Num)) && within(n.Clock, 1, 1<<40) && within(n.Day, 0, 99999)
	kind := n.Kind
	n.House, n.Num, n.Clock, n.Day, n.Kind = 0, 0, 0, 0, 0
	if kind == 2 || kind == 5 || kind == 6 {
		is = is && isRight(n.Ref)
		n.Ref = api.Name{}
	}
	switch kind {
	case 5:
		is = modelContent(f, &n, n.Fix) && is
		n.Fix = 0
	case 6:
	default:
		is = modelContent(f, &n, kind) && is
	}
	return is && len(n.Strokes) == 0 && reflect.DeepEqual(withList(n, nil), api.Note{})
}

func withList(n api.Note, l []int) api.Note {
	n.Strokes = l
	return n
}

// find returns the note of a list that has a name.
func find(l []api.Note, x api.Name) (api.Note, bool) {
	for _, n := range l {
		if name(n.House, n.Num) == x {
			return n, true
		}
	}
	return api.Note{}, false
}

// modelLess compares lists of numbers.
func modelLess(a, b []int) bool { return slices.Compare(a, b) < 0 }

func clockOf(n api.Note) []int { return []int{n.Clock, n.House, n.Num} }

func effectOf(n api.Note) []int { return append([]int{n.Day}, clockOf(n)...) }

// mayJudge reports whether a note can be the judge of another one.
func mayJudge(n, of api.Note) bool {
	if !isChange(n) || isChange(of) || n.Ref != name(of.House, of.Num) {
		return false
	}
	return n.Kind == 6 || n.Fix != 2 || of.Kind == 2
}

// modelJudge goes through a whole set for the judge of a note.
func modelJudge(l []api.Note, of api.Note) (judge api.Note, is bool) {
	for _, n := range l {
		if mayJudge(n, of) && (!is || modelLess(clockOf(judge), clockOf(n))) {
			judge, is = n, true
		}
	}
	return judge, is
}

// modelCounts returns what counts of a note: if its judge corrects it, the judge with another name, clock and kind.
func modelCounts(l []api.Note, n api.Note) (api.Note, bool) {
	judge, is := modelJudge(l, n)
	if isChange(n) || is && judge.Kind == 6 {
		return api.Note{}, false
	}
	if !is {
		return n, true
	}
	ref := n.Ref
	n.House, judge.House = judge.House, n.House
	n.Num, judge.Num = judge.Num, n.Num
	judge.Clock, judge.Kind, judge.Fix, judge.Ref = n.Clock, judge.Fix, 0, api.Name{}
	if judge.Kind == 2 {
		judge.Ref = ref
	}
	return judge, true
}

// modelEvents puts each event behind all that take effect ahead of it.
func modelEvents(l []api.Note) []api.Event {
	var events []api.Event
	for _, n := range l {
		x, is := modelCounts(l, n)
		if !is {
			continue
		}
		at := 0
		for at < len(events) && modelLess(effectOf(events[at].Note), effectOf(x)) {
			at++
		}
		events = slices.Insert(events, at, api.Event{Ref: name(x.House, x.Num), Note: x})
	}
	return events
}

// modelRegister builds the register of what was done by a day, as it was known by a clock.
func modelRegister(all []api.Note, day, clock int) api.Register {
	var l []api.Note
	for _, n := range all {
		if n.Clock <= clock {
			l = append(l, n)
		}
	}
	var r api.Register
	conflict := map[api.Name]bool{}
	heaps := map[api.Name]bool{}
	for _, x := range modelEvents(l) {
		switch {
		case x.Note.Day > day:
		case x.Note.Kind == 1 && len(heaps) < 8:
			heaps[x.Ref] = true
			r.Heaps = append(r.Heaps, x)
		case x.Note.Kind == 2 && heaps[x.Note.Ref] || x.Note.Kind > 2:
			r.Events = append(r.Events, x)
		default:
			conflict[x.Ref] = true
		}
	}
	for _, n := range l {
		of, is := find(l, n.Ref)
		if conflict[name(n.House, n.Num)] || isChange(n) && (!is || !mayJudge(n, of)) {
			r.Conflicts = append(r.Conflicts, name(n.House, n.Num))
		}
	}
	return r
}

// same reports whether two values are equal, where nil and empty lists are the same thing.
func same(a, b any) bool {
	return reflect.DeepEqual(plain(reflect.ValueOf(a)), plain(reflect.ValueOf(b)))
}

// plain returns a value in which no list is empty but not nil.
func plain(v reflect.Value) any {
	if !v.IsValid() {
		return nil
	}
	c := reflect.New(v.Type()).Elem()
	c.Set(v)
	switch v.Kind() {
	case reflect.Slice:
		c.SetZero()
		for i := range v.Len() {
			c.Set(reflect.Append(c, reflect.ValueOf(plain(v.Index(i)))))
		}
	case reflect.Array:
		for i := range v.Len() {
			c.Index(i).Set(reflect.ValueOf(plain(v.Index(i))))
		}
	case reflect.Struct:
		for i := range v.NumField() {
			c.Field(i).Set(reflect.ValueOf(plain(v.Field(i))))
		}
	}
	return c.Interface()
}

// must returns the result of a call, which must have no error.
func must[T any](t *testing.T, what string) func(T, api.Errno) T {
	return func(v T, e api.Errno) T {
		t.Helper()
		if e != api.OK {
			t.Fatalf("%s: error %d", what, e)
		}
		return v
	}
}

func want(t *testing.T, what string, got, want any) {
	t.Helper()
	if !same(got, want) {
		t.Errorf("%s: got %+v, want %+v", what, got, want)
	}
}

func wantError(t *testing.T, what string, got, want api.Errno) {
	t.Helper()
	if got != want {
		t.Errorf("%s: error %d, want %d", what, got, want)
	}
}

// zeroOf returns whether the result of a call is a zero value, and its error.
func zeroOf[T any](x T, e api.Errno) (bool, api.Errno) {
	var zero T
	return same(x, zero), e
}

func fold(t *testing.T, l []api.Note) api.Register {
	t.Helper()
	return must[api.Register](t, "Fold")(history.Fold(frame(), l))
}
