package dressing_test

import (
	"math/big"
	"math/rand"
	"testing"

	"millrind/api"
	"millrind/dressing"
)

// P5.1, D11, D12: the examples of the chapter, and example 5 of DOC.md.
func TestExampleHeights(t *testing.T) {
	h, deep := api.Span{Lo: 10, Hi: 12}, api.Span{Lo: 2, Hi: 3}
	want(t, "Falls", must[api.Span](t, "Falls")(dressing.Falls(h, deep, 2)), api.Span{Lo: 4, Hi: 8})
	want(t, "Need", must[api.Span](t, "Need")(dressing.Need(h, api.Span{Lo: 4, Hi: 8}, deep)), api.Span{Lo: 2, Hi: 2})
	_, e := dressing.Need(h, api.Span{Lo: 6, Hi: 7}, deep)
	wantError(t, "Need", e, api.ErrStroke)
	got := must[api.Span](t, "Need")(dressing.Need(api.Span{Lo: 11, Hi: 12}, api.Span{Lo: 0, Hi: 8}, api.Span{Lo: 2, Hi: 2}))
	want(t, "Need of example 5", got, api.Span{Lo: 2, Hi: 5})
}

func inside(x, aim api.Span) bool { return aim.Lo <= x.Lo && x.Hi <= aim.Hi }

// P5.1, P5.6, P0.6, D11, D12: the heights behind k strokes are in the aim if and only if k is in Need; where Need is ErrStroke, they are for no k. All strokes are gone through, each one with its least and its greatest depth.
func TestNeedOfSmallHeights(t *testing.T) {
	rng := rand.New(rand.NewSource(12))
	needed, empty := 0, 0
	for range 3000 {
		h := randomSpan(rng, 40, 6)
		h = api.Span{Lo: h.Lo - 20, Hi: h.Hi - 20}
		aim := randomSpan(rng, 60, 25)
		aim = api.Span{Lo: aim.Lo - 50, Hi: aim.Hi - 50}
		deep := randomSpan(rng, 4, 2)
		deep = api.Span{Lo: deep.Lo + 1, Hi: deep.Hi + 1}
		need, e := dressing.Need(h, aim, deep)
		if e != api.OK {
			empty++
			want(t, "Need with an error", need, api.Span{})
			wantError(t, "Need", e, api.ErrStroke)
		} else {
			needed++
		}
		low, high := h.Lo, h.Hi
		for k := range 130 {
			after := must[api.Span](t, "Falls")(dressing.Falls(h, deep, k))
			want(t, "Falls", after, api.Span{Lo: low, Hi: high})
			is := e == api.OK && need.Lo <= k && k <= need.Hi
			if inside(after, aim) != is {
				t.Fatalf("behind %d strokes of %v, %v is %v for the aim %v, but Need is %v, %d", k, deep, h, after, aim, need, e)
			}
			low, high = low-deep.Hi, high-deep.Lo
		}
	}
	if min(needed, empty) < 300 {
		t.Errorf("%d needs and %d without: too few", needed, empty)
	}
}

// P5.1, P5.6, D12: the ends of Need for heights of any size are those behind which one stroke more or fewer leaves the aim, or the greatest and the least number of strokes.
func TestNeedEnds(t *testing.T) {
	rng := rand.New(rand.NewSource(13))
	falls := func(h, deep api.Span, k int) api.Span {
		return must[api.Span](t, "Falls")(dressing.Falls(h, deep, k))
	}
	most, found := 0, 0
	for range 20000 {
		size := 1 << (2 + rng.Intn(27))
		h, deep := randomSpan(rng, size, 9), randomSpan(rng, min(size, 1<<uint(rng.Intn(20))), 3)
		aim := randomSpan(rng, size, size)
		aim.Lo -= size
		deep = api.Span{Lo: deep.Lo + 1, Hi: deep.Hi + 1}
		need, e := dressing.Need(h, aim, deep)
		if e != api.OK {
			continue
		}
		found++
		if need.Hi == api.MaxStrokes {
			most++
		}
		if need.Lo < 0 || need.Lo > need.Hi || need.Hi > api.MaxStrokes {
			t.Fatalf("Need is %v", need)
		}
		if !inside(falls(h, deep, need.Lo), aim) || !inside(falls(h, deep, need.Hi), aim) {
			t.Errorf("%v strokes of %v on %v leave the aim %v", need, deep, h, aim)
		}
		if need.Lo > 0 && inside(falls(h, deep, need.Lo-1), aim) || need.Hi < api.MaxStrokes && inside(falls(h, deep, need.Hi+1), aim) {
			t.Errorf("%v are not all strokes of %v on %v for the aim %v", need, deep, h, aim)
		}
	}
	if found < 3000 || most < 100 {
		t.Errorf("%d needs, %d of them up to the greatest number", found, most)
	}
}

// P5.1, D12: the greatest heights, depths and numbers of strokes.
func TestNeedLimits(t *testing.T) {
	const far = api.MaxHeight
	for _, x := range []struct {
		what         string
		h, aim, deep api.Span
		want         api.Span
		e            api.Errno
	}{
		{"already there", api.Span{Lo: 5, Hi: 6}, api.Span{Lo: 5, Hi: 6}, api.Span{Lo: 1, Hi: 1}, api.Span{}, api.OK},
		{"too low already", api.Span{Lo: 4, Hi: 6}, api.Span{Lo: 5, Hi: 6}, api.Span{Lo: 1, Hi: 1}, api.Span{}, api.ErrStroke},
		{"from the top to the ground", api.Span{Lo: far, Hi: far}, api.Span{Lo: -far, Hi: -far}, api.Span{Lo: far, Hi: far}, api.Span{Lo: 2, Hi: 2}, api.OK},
		{"all strokes", api.Span{Lo: 100000, Hi: 100000}, api.Span{Lo: 0, Hi: 0}, api.Span{Lo: 1, Hi: 1}, api.Span{Lo: 100000, Hi: 100000}, api.OK},
		{"one more than all", api.Span{Lo: 100001, Hi: 100001}, api.Span{Lo: 0, Hi: 0}, api.Span{Lo: 1, Hi: 1}, api.Span{}, api.ErrStroke},
		{"room for more than all", api.Span{Lo: 0, Hi: 0}, api.Span{Lo: -far, Hi: 0}, api.Span{Lo: 1, Hi: 1}, api.Span{Lo: 0, Hi: 100000}, api.OK},
		{"between two strokes", api.Span{Lo: 10, Hi: 10}, api.Span{Lo: 4, Hi: 6}, api.Span{Lo: 7, Hi: 7}, api.Span{}, api.ErrStroke},
		{"depths that grow apart", api.Span{Lo: 0, Hi: 0}, api.Span{Lo: -10, Hi: -5}, api.Span{Lo: 1, Hi: 3}, api.Span{}, api.ErrStroke},
		{"below the ground", api.Span{Lo: -far, Hi: far}, api.Span{Lo: -far, Hi: far}, api.Span{Lo: 1, Hi: 1}, api.Span{}, api.OK},
	} {
		got, e := dressing.Need(x.h, x.aim, x.deep)
		wantError(t, x.what, e, x.e)
		want(t, x.what, got, x.want)
	}
}

// P5.1, D11, R5: the lowest heights that strokes may leave behind do not wrap around.
func TestFallsFar(t *testing.T) {
	const far = api.MaxHeight
	got := must[api.Span](t, "Falls")(dressing.Falls(api.Span{Lo: -far, Hi: far}, api.Span{Lo: 1, Hi: far}, api.MaxStrokes))
	low := new(big.Int).Sub(big.NewInt(-far), new(big.Int).Mul(big.NewInt(far), big.NewInt(api.MaxStrokes)))
	want(t, "Falls", got, api.Span{Lo: int(low.Int64()), Hi: far - api.MaxStrokes})
}

// P5.6: behind some strokes and then some more, heights are those behind both together.
func TestFallsAdd(t *testing.T) {
	rng := rand.New(rand.NewSource(14))
	for range 2000 {
		h, deep := randomSpan(rng, 1000000, 1000), randomSpan(rng, 100, 100)
		deep = api.Span{Lo: deep.Lo + 1, Hi: deep.Hi + 1}
		a, b := rng.Intn(50001), rng.Intn(50001)
		fall := func(h api.Span, k int) api.Span {
			return must[api.Span](t, "Falls")(dressing.Falls(h, deep, k))
		}
		want(t, "Falls twice", fall(fall(h, a), b), fall(h, a+b))
	}
}

// P5.1, Errors: spans that are no heights, aims or depths, and numbers of strokes that may not be, are ErrArg.
func TestHeightErrors(t *testing.T) {
	const far = api.MaxHeight
	good, deep := api.Span{Lo: 0, Hi: 5}, api.Span{Lo: 1, Hi: 2}
	heights := []api.Span{{Lo: 1, Hi: 0}, {Lo: -far - 1, Hi: 0}, {Lo: 0, Hi: far + 1}, {Lo: -1 << 63, Hi: 1<<63 - 1}}
	depths := []api.Span{{Lo: 0, Hi: 1}, {Lo: 2, Hi: 1}, {Lo: 1, Hi: far + 1}, {Lo: -5, Hi: 5}, {}, {Lo: 1, Hi: 1<<63 - 1}}
	fail := func(h, aim, deep api.Span) {
		t.Helper()
		x, e := dressing.Need(h, aim, deep)
		wantError(t, "Need", e, api.ErrArg)
		want(t, "Need with an error", x, api.Span{})
	}
	fall := func(h, deep api.Span, n int) {
		t.Helper()
		x, e := dressing.Falls(h, deep, n)
		wantError(t, "Falls", e, api.ErrArg)
		want(t, "Falls with an error", x, api.Span{})
	}
	for _, x := range heights {
		fail(x, good, deep)
		fail(good, x, deep)
		fall(x, deep, 1)
	}
	for _, x := range depths {
		fail(good, good, x)
		fail(api.Span{Lo: 0, Hi: 9}, api.Span{Lo: 3, Hi: 3}, x)
		fall(good, x, 1)
	}
	for _, n := range []int{-1, api.MaxStrokes + 1, 1<<63 - 1, -1 << 63} {
		fall(good, deep, n)
	}
	for _, n := range []int{0, api.MaxStrokes} {
		_, e := dressing.Falls(good, deep, n)
		wantError(t, "Falls", e, api.OK)
	}
}
