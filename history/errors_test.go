package history_test

import (
	"math/rand"
	"reflect"
	"testing"

	"millrind/api"
	"millrind/history"
)

// setCalls are the functions of a set: each tells whether its result is zero, and its error.
func setCalls(f api.Frame, l []api.Note) map[string]func() (bool, api.Errno) {
	return map[string]func() (bool, api.Errno){
		"Merge":             func() (bool, api.Errno) { return zeroOf(history.Merge(f, l, sample())) },
		"Merge, the second": func() (bool, api.Errno) { return zeroOf(history.Merge(f, sample(), l)) },
		"Fork":              func() (bool, api.Errno) { return zeroOf(history.Fork(f, l, sample())) },
		"Fork, the second":  func() (bool, api.Errno) { return zeroOf(history.Fork(f, sample(), l)) },
		"Effective":         func() (bool, api.Errno) { return zeroOf(history.Effective(f, l)) },
		"Fold":              func() (bool, api.Errno) { return zeroOf(history.Fold(f, l)) },
		"AsOf":              func() (bool, api.Errno) { return zeroOf(history.AsOf(f, l, -1, 0)) },
		"Chain":             func() (bool, api.Errno) { return zeroOf(history.Chain(f, l, name(9, 9))) },
	}
}

// P8.1, Errors: all functions of a frame return ErrArg first, if it is not valid, and then if a list of notes is no set, ahead of their own errors.
func TestSetErrors(t *testing.T) {
	for what, x := range badSets() {
		for which, call := range setCalls(frame(), x.l) {
			zero, e := call()
			wantError(t, what+": "+which, e, api.ErrArg)
			want(t, what+": "+which+" is zero", zero, true)
		}
	}
	for what, f := range badFrames() {
		for _, l := range [][]api.Note{nil, sample(), badSets()["two notes of one name"].l} {
			for which, call := range setCalls(f, l) {
				zero, e := call()
				wantError(t, what+": "+which, e, api.ErrArg)
				want(t, what+": "+which+" is zero", zero, true)
			}
		}
		_, e := history.Merge(f, nil, nil)
		wantError(t, what+": Merge of nothing", e, api.ErrArg)
		_, e = history.Fork(f, nil, nil)
		wantError(t, what+": Fork of nothing", e, api.ErrArg)
	}
	_, e := history.Merge(frame(), nil, []api.Note{})
	wantError(t, "Merge of nothing", e, api.OK)
	_, e = history.Fork(frame(), nil, []api.Note{})
	wantError(t, "Fork of nothing", e, api.ErrNone)
	_, e = history.Chain(frame(), nil, name(1, 1))
	wantError(t, "Chain of nothing", e, api.ErrNone)
	_, e = history.Fold(api.Frame{Rings: 2, Sectors: 4, Wide: 3}, sample())
	wantError(t, "notes of another frame", e, api.ErrArg)
}

// R7: results are new memory, and share none within them; sets and registers are not changed, also not behind the end of a list.
func TestSetsAreKept(t *testing.T) {
	eachSet(t, 100, func(rng *rand.Rand, l []api.Note) {
		room := append(cloneNotes(l), api.Note{House: 5, Strokes: []int{7}}, api.Note{Num: 5})
		before := deep(room)
		a := room[:len(l)]
		for range 2 {
			r := fold(t, a)
			known := asOf(t, a, 99, 99)
			events := effective(t, a)
			union := must[[]api.Note](t, "Merge")(history.Merge(frame(), a, a))
			first := deep(r)
			spoil(reflect.ValueOf(&known))
			spoil(reflect.ValueOf(&events))
			spoil(reflect.ValueOf(&union))
			want(t, "the register", r, first)
			wantOwn(t, "Fold", r)
			history.Fork(frame(), a, a)
			history.CheckSet(frame(), a)
			storyOf(t, aBase(), r, 0)
			strokesOn(t, r, 0, 0)
			want(t, "the register that was asked", r, first)
			spoil(reflect.ValueOf(&r))
			want(t, "the notes", room, before)
		}
	})
}

// wantOwn checks that no list of a register's events is changed with another one.
func wantOwn(t *testing.T, what string, r api.Register) {
	t.Helper()
	c := r
	c.Events, c.Heaps = nil, nil
	for _, x := range r.Events {
		c.Events = append(c.Events, deep(x))
	}
	for i := range r.Events {
		for k := range r.Events[i].Note.Strokes {
			r.Events[i].Note.Strokes[k] += 5
			c.Events[i].Note.Strokes[k] += 5
			want(t, what, r.Events, c.Events)
			r.Events[i].Note.Strokes[k] -= 5
			c.Events[i].Note.Strokes[k] -= 5
		}
	}
}
