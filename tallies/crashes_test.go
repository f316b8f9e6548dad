package tallies_test

import (
	"math"
	"testing"

	"millrind/api"
	"millrind/tallies"
)

// A house with a heap that was synced, and two readings, strokes and a heap that were not.
func pendingHouse(t *testing.T) (*tallies.House, *modelHouse) {
	t.Helper()
	h, m := newHouse(t, 1), &modelHouse{id: 1}
	for i, n := range []api.Note{heap(1), reading(2), reading(3), strokes(1, 0, 1, 2), heap(4)} {
		do(t, h, n)
		m.do(n)
		if i == 0 {
			h.Sync()
			m.sync()
		}
	}
	return h, m
}

// P9.1, T18: the errors of a stick's crash, with which nothing happens; also not to what is pending.
func TestCrashErrors(t *testing.T) {
	h, m := pendingHouse(t)
	stock, foil := m.pending()
	for _, x := range [][3]int{
		{stock + 1, 0, -1}, {0, foil + 1, -1}, {-1, 0, -1}, {0, -1, -1}, {0, 0, 0}, {0, 0, -2}, {1, 1, 16}, {stock, foil, 8 * (stock + foil)},
		{math.MaxInt, math.MaxInt, math.MaxInt}, {math.MinInt, math.MinInt, math.MinInt},
	} {
		want(t, "Crash "+text(x), h.Crash(x[0], x[1], x[2]), api.ErrArg)
		want(t, "behind an error", h.Notes(), m.added)
	}
	want(t, "Crash of no byte", h.Crash(stock, foil, -1), api.OK)
	want(t, "behind it", h.Notes(), m.added)
	want(t, "nothing is pending", h.Crash(1, 0, -1), api.ErrArg)
	want(t, "nothing is pending", h.Crash(0, 1, -1), api.ErrArg)
}

// P9.4, P0.7: wherever the journals are torn, and whichever bit is wrong, a house knows what was synced, and of the rest the first notes; another crash changes nothing.
func TestPower(t *testing.T) {
	_, m := pendingHouse(t)
	stock, foil := m.pending()
	for s := 0; s <= stock; s += 1 + s%3 {
		for f := 0; f <= foil; f++ {
			wantCrash(t, s, f, -1)
		}
		wantCrash(t, s, foil, 8*s)
	}
	for flip := range 8 * (stock + foil) {
		wantCrash(t, stock, foil, flip)
	}
}

// wantCrash crashes a house, and goes on with it.
func wantCrash(t *testing.T, stock, foil, flip int) {
	t.Helper()
	h, m := pendingHouse(t)
	want(t, "Crash", h.Crash(stock, foil, flip), m.crash(stock, foil, flip))
	want(t, "behind a crash", h.Notes(), m.added)
	want(t, "nothing is pending", []any{h.Crash(1, 0, -1), h.Crash(0, 1, -1)}, []any{api.ErrArg, api.ErrArg})
	want(t, "Crash again", h.Crash(0, 0, -1), api.OK)
	want(t, "behind another crash", h.Notes(), m.added)
	n, _ := m.do(fixStrokes(7, 1, 3, 0, 2))
	want(t, "the next note", do(t, h, fixStrokes(7, 1, 3, 0, 2)), n)
	size, other := m.pending()
	want(t, "more than is pending", []any{h.Crash(size+1, 0, -1), h.Crash(0, other+1, -1)}, []any{api.ErrArg, api.ErrArg})
	want(t, "all that is pending", h.Crash(size, other, -1), api.OK)
	want(t, "behind a crash that loses nothing", h.Notes(), m.added)
	if t.Failed() {
		t.Fatalf("the crash was %d, %d, %d", stock, foil, flip)
	}
}

// P9.4: notes of others are lost and kept as those of the house, in the order in which they were added.
func TestPowerOfOthers(t *testing.T) {
	others := []api.Note{by(4, 1, 5, heap(1)), by(2, 1, 9, reading(1)), by(4, 2, 3, withdrawal(2, 4, 1))}
	for kept := 0; kept <= 4; kept++ {
		h, m := newHouse(t, 3), &modelHouse{id: 3}
		hear(t, h, others...)
		m.hear(others)
		do(t, h, heap(2))
		m.do(heap(2))
		stock, foil := (&modelHouse{added: m.added[:kept]}).pending()
		want(t, "Crash", h.Crash(stock, foil, -1), m.crash(stock, foil, -1))
		want(t, "what is left", len(h.Notes()), kept)
		want(t, "what is left", h.Notes(), m.set())
		n, e := m.do(reading(5))
		x, f := h.Do(reading(5))
		want(t, "the next note", []any{x, f}, []any{n, e})
		want(t, "what was lost is heard again", hear(t, h, others...), max(0, 3-kept))
	}
}

// P9.4: a full house is whole behind a crash.
func TestPowerOfMany(t *testing.T) {
	h := newHouse(t, 8)
	hear(t, h, manyReadings(1, 300)...)
	h.Sync()
	hear(t, h, manyReadings(7, 100)...)
	stock, foil := (&modelHouse{added: manyReadings(7, 100)}).pending()
	want(t, "Crash", h.Crash(stock-1, foil, -1), api.OK)
	want(t, "all but one", h.Counts(), []int{300, 0, 0, 0, 0, 0, 99, 0})
	want(t, "Hear", hear(t, h, manyReadings(7, 100)...), 1)
	h.Sync()
	want(t, "Crash", h.Crash(0, 0, -1), api.OK)
	want(t, "all", h.Counts(), []int{300, 0, 0, 0, 0, 0, 100, 0})
}
