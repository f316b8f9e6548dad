package truth_test

import (
	"cmp"
	"math/rand"
	"slices"
	"testing"

	"millrind/api"
	"millrind/truth"
)

// waysInOrder are all ways: the least |X| + |Y| first, then the least X, then the least Y.
func waysInOrder() []api.Point {
	var l []api.Point
	for x := -100; x <= 100; x++ {
		for y := -100; y <= 100; y++ {
			if x != 0 || y != 0 {
				l = append(l, api.Point{X: x, Y: y})
			}
		}
	}
	slices.SortFunc(l, func(a, b api.Point) int {
		return cmp.Or(size(a)-size(b), a.X-b.X, a.Y-b.Y)
	})
	return l
}

// P6.1, T9, T10: the examples of the chapter.
func TestExampleWays(t *testing.T) {
	want(t, "Reach", must[api.Span](t, "Reach")(truth.Reach(example(3), api.Point{X: 1})), api.Span{Lo: -6, Hi: 12})
	want(t, "Reach", must[api.Span](t, "Reach")(truth.Reach(example(3), api.Point{Y: 1})), api.Span{Lo: 0, Hi: 14})
	_, e := truth.Apart(example(3))
	wantError(t, "Apart", e, api.ErrNone)
	want(t, "Apart", must[api.Point](t, "Apart")(truth.Apart(example(1))), api.Point{X: 1})
}

// P6.1, P6.4, T9: the moment with each lead goes within Reach, and both ends occur.
func TestReachOfSmallStones(t *testing.T) {
	eachSmallStone(500, func(rng *rand.Rand, s api.Stone) {
		for range 5 {
			way := api.Point{X: around(rng, 100), Y: 1 + rng.Intn(100)}
			want(t, "Reach", must[api.Span](t, "Reach")(truth.Reach(s, way)), goes(s, way, leadsOf(s)))
		}
	})
}

// P6.1, P6.4, T10: Apart is the first of all ways in which a small stone is apart; then no lead balances it.
func TestApartOfSmallStones(t *testing.T) {
	all := waysInOrder()
	apart := 0
	eachSmallStone(300, func(_ *rand.Rand, s api.Stone) {
		leads := leadsOf(s)
		way, e := truth.Apart(s)
		first := slices.IndexFunc(all, func(w api.Point) bool { return goes(s, w, leads).Lo > s.Tol*size(w) })
		if len(balancingOf(s)) > 0 {
			want(t, "a way in which a stone that can be balanced is apart", first, -1)
		}
		if first < 0 {
			wantError(t, "Apart", e, api.ErrNone)
			want(t, "Apart with an error", way, api.Point{})
			return
		}
		apart++
		wantError(t, "Apart", e, api.OK)
		want(t, "Apart", way, all[first])
	})
	if apart < 50 {
		t.Errorf("only %d stones are apart", apart)
	}
}

// P6.1, T10: the first way is the shortest one, then the one with the least X, then with the least Y.
func TestFirstWays(t *testing.T) {
	for _, x := range []struct {
		stone api.Stone
		way   api.Point
	}{
		{heavy(1, 1, 0), api.Point{Y: 1}},
		{heavy(1, -1, 0), api.Point{Y: -1}},
		{heavy(-1, 1, 0), api.Point{X: -1}},
		{heavy(1, 0, 0), api.Point{X: 1}},
		{heavy(1, 1, 0, pocket(-12, 0, 1), pocket(0, -12, 1), pocket(5, 5, 9)), api.Point{}},
		{heavy(1, 1, 0, pocket(12, -12, 2), pocket(-12, 12, 2)), api.Point{X: 1, Y: 1}},
		{heavy(1, -1, 0, pocket(12, 12, 2), pocket(-12, -12, 2)), api.Point{X: 1, Y: -1}},
		{heavy(-1, 1, 0, pocket(12, 12, 2), pocket(-12, -12, 2)), api.Point{X: -1, Y: 1}},
		{heavy(-2, 1, 0, pocket(12, 24, 2), pocket(-12, -24, 2)), api.Point{X: -2, Y: 1}},
		{heavy(100, 0, 100), api.Point{X: 1}},
		{heavy(100, 0, 599), api.Point{X: 1}},
		{heavy(100, 0, 600), api.Point{}},
	} {
		way, e := truth.Apart(x.stone)
		want(t, "Apart", way, x.way)
		want(t, "Apart returns ErrNone", e == api.ErrNone, x.way == api.Point{})
	}
}

// P6.1, T10: stones that are apart in a single way with coordinates of 99 and 100; with a greater Tol they are apart in none, though no lead balances them.
func TestLongestWays(t *testing.T) {
	for _, way := range []api.Point{{X: 100, Y: -99}, {X: -100, Y: 99}, {X: 99, Y: -100}, {X: -99, Y: 100}, {X: 99, Y: 100}, {X: -100, Y: -99}} {
		// The lead moves the moment along a line across the way, at most 126 and 129 arms off the point where it goes by the way as little as 6.
		arm := api.Point{X: -way.Y, Y: way.X}
		near := api.Point{X: sign(way.X), Y: -sign(way.Y)}
		if near.X*way.X+near.Y*way.Y < 0 {
			near = api.Point{X: -near.X, Y: -near.Y}
		}
		s := heavy(near.X-21*arm.X, near.Y-21*arm.Y, 0, pocket(arm.X, arm.Y, 255))
		want(t, "Reach", must[api.Span](t, "Reach")(truth.Reach(s, way)), api.Span{Lo: 6, Hi: 6})
		want(t, "Apart", must[api.Point](t, "Apart")(truth.Apart(s)), way)
		s.Tol = 1
		_, e := truth.Apart(s)
		wantError(t, "Apart with a greater Tol", e, api.ErrNone)
		_, e = truth.Least(s)
		wantError(t, "Least with a greater Tol", e, api.ErrBalance)
		proved(t, "a stone that is apart in no way", s)
	}
}

func sign(n int) int { return cmp.Compare(n, 0) }
