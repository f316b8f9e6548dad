package grain_test

import (
	"math"
	"slices"
	"testing"

	"millrind/api"
	"millrind/grain"
)

// P3.1, G5: the chapter's examples, and the ends of what is allowed.
func TestHalved(t *testing.T) {
	for _, x := range []struct{ size, times, want int }{
		{9, 0, 9}, {9, 1, 5}, {9, 2, 3}, {9, 3, 2}, {9, 4, 1}, {9, 9, 1}, {1, 0, 1}, {1, 1, 1}, {1, api.MaxTrail, 1}, {2, 1, 1}, {3, 1, 2}, {4, 1, 2},
		{api.MaxSize, 1, 2048}, {api.MaxSize, 11, 2}, {api.MaxSize, 12, 1}, {api.MaxSize, api.MaxTrail, 1},
	} {
		if n := must[int](t, "Halved")(grain.Halved(x.size, x.times)); n != x.want {
			t.Errorf("Halved(%d, %d): %d, want %d", x.size, x.times, n, x.want)
		}
	}
	for _, x := range [][2]int{
		{0, 1}, {-1, 1}, {math.MinInt, 0}, {api.MaxSize + 1, 0}, {math.MaxInt, 1}, {1, -1}, {9, math.MinInt}, {9, api.MaxTrail + 1}, {9, math.MaxInt}, {0, -1},
	} {
		if n, e := grain.Halved(x[0], x[1]); e != api.ErrArg || n != 0 {
			t.Errorf("Halved(%d, %d): %d, error %d", x[0], x[1], n, e)
		}
	}
}

// P3.2: halving so many times and then some more times; no size increases, and of two sizes the one that is not greater stays so.
func TestHalving(t *testing.T) {
	halved := func(size, times int) int { return must[int](t, "Halved")(grain.Halved(size, times)) }
	for size := 1; size <= api.MaxSize; size++ {
		for times := range 14 {
			n := halved(size, times)
			if n > size || n < 1 {
				t.Fatalf("Halved(%d, %d): %d", size, times, n)
			}
			if size > 1 && halved(size-1, times) > n {
				t.Fatalf("Halved(%d, %d) is greater than Halved(%d, %d)", size-1, times, size, times)
			}
			for _, more := range []int{0, 1, 2, 5, api.MaxTrail - 13} {
				if halved(n, more) != halved(size, times+more) {
					t.Fatalf("a size of %d that is halved %d times and %d times more", size, times, more)
				}
			}
		}
	}
}

// P3.1, G6: the chapter's examples, and the gaps' own sizes.
func TestBites(t *testing.T) {
	m := plain(2, 3, 0, api.Move{Out: 1})
	m.Gap = []int{0, 1, 2, 7, api.MaxSize - 1, api.MaxSize}
	for i, gap := range m.Gap {
		for turn := range 3 {
			for _, size := range []int{gap - 1, gap, gap + 1, 1, 2, api.MaxSize} {
				if size < 1 || size > api.MaxSize {
					continue
				}
				g := api.Grain{At: api.State{Ring: i / 3, Sector: i % 3, Turn: turn}, Size: size, Cuts: i}
				if is := must[bool](t, "Bites")(grain.Bites(m, g)); is != (gap < size) {
					t.Errorf("Bites of %v above the gap %d: %v", g, gap, is)
				}
			}
		}
	}
	for _, x := range []struct {
		g    api.Grain
		want bool
	}{{api.Grain{Size: 2}, true}, {api.Grain{At: api.State{Sector: 1}, Size: 3}, false}} {
		if is := must[bool](t, "Bites")(grain.Bites(sampleTrap(), x.g)); is != x.want {
			t.Errorf("Bites of %v: %v", x.g, is)
		}
	}
}

// P3.1, G7: the chapter's example, steps that do not cut, and a grain that was cut as often as may be.
func TestAfter(t *testing.T) {
	for _, x := range []struct {
		g    api.Grain
		move api.Move
		to   api.Grain
		out  bool
	}{
		{api.Grain{Size: 4, Cuts: 2}, api.Move{Side: 1, Cut: true}, api.Grain{At: api.State{Sector: 1, Turn: 1}, Size: 2, Cuts: 3}, false},
		{api.Grain{Size: 4, Cuts: 2}, api.Move{Out: 1}, api.Grain{Size: 4, Cuts: 2}, true},
		{api.Grain{Size: 1, Cuts: 2}, api.Move{Side: 1, Cut: true}, api.Grain{At: api.State{Sector: 1, Turn: 1}, Size: 1, Cuts: 2}, false},
		{api.Grain{At: api.State{Sector: 1, Turn: 1}, Size: 3}, api.Move{Side: 1, Cut: true}, api.Grain{Size: 3}, false},
		{api.Grain{At: api.State{Sector: 1, Turn: 1}, Size: 5}, api.Move{Side: 1, Cut: true}, api.Grain{Size: 3, Cuts: 1}, false},
		{api.Grain{At: api.State{Sector: 1, Turn: 1}, Size: 5}, api.Move{Out: 1}, api.Grain{Size: 5}, true},
		{api.Grain{Size: 2, Cuts: api.MaxTrail}, api.Move{Side: 1, Cut: true}, api.Grain{At: api.State{Sector: 1, Turn: 1}, Size: 1, Cuts: api.MaxTrail + 1}, false},
	} {
		to, out, e := grain.After(sampleTrap(), x.g, x.move)
		if e != api.OK || to != x.to || out != x.out {
			t.Errorf("After of %v by %v: %v, %v, error %d", x.g, x.move, to, out, e)
		}
	}
	to, out, e := grain.After(sampleFree(), api.Grain{Size: 9}, api.Move{Out: 1, Cut: true})
	if e != api.OK || !out || to != (api.Grain{Size: 5, Cuts: 1}) {
		t.Errorf("After with a cut and out: %v, %v, error %d", to, out, e)
	}
	for _, x := range []api.Move{{}, {Out: 1, Cut: true}, {Side: 1}, {Side: -1, Cut: true}, {Out: 2}, {Out: math.MaxInt, Side: math.MinInt}} {
		if to, out, e := grain.After(sampleTrap(), api.Grain{Size: 4}, x); e != api.ErrArg || out || to != (api.Grain{}) {
			t.Errorf("After by %v: %v, %v, error %d", x, to, out, e)
		}
	}
}

// P3.1, G6 and G7: all grains and moves of the sample mills.
func TestSteps(t *testing.T) {
	for _, m := range sampleMills() {
		w := modelOf(m)
		for i, s := range w.states() {
			for _, size := range []int{1, 2, 3, 7, 12, 55, api.MaxSize, m.Gap[i%len(m.Gap)] + 1} {
				g := api.Grain{At: s, Size: min(size, api.MaxSize), Cuts: i}
				if is := must[bool](t, "Bites")(grain.Bites(m, g)); is != w.bites(g) {
					t.Fatalf("Bites of %v in %v: %v", g, m, is)
				}
				for _, x := range allMoves() {
					to, out, e := grain.After(m, g, x)
					if !slices.Contains(w.moves(s), x) {
						if e != api.ErrArg || out || to != (api.Grain{}) {
							t.Fatalf("After of %v by %v in %v: %v, %v, error %d", g, x, m, to, out, e)
						}
						continue
					}
					wantTo, wantOut := w.step(g, x)
					if e != api.OK || to != wantTo || out != wantOut {
						t.Fatalf("After of %v by %v in %v: %v, %v, error %d", g, x, m, to, out, e)
					}
				}
			}
		}
	}
}
