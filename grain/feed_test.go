package grain_test

import (
	"math"
	"testing"

	"millrind/api"
	"millrind/grain"
)

// P3.1: the chapter's example of a feed.
func TestFeedExamples(t *testing.T) {
	f := api.Feed{Hopper: 10, Draw: 4, Knocks: 2}
	for knocks, want := range []int{0, 4, 8, 10, 10} {
		if fed, left, e := grain.Drawn(f, knocks); e != api.OK || fed != want || left != 10-want {
			t.Errorf("Drawn(%d): %d, %d, error %d", knocks, fed, left, e)
		}
	}
	for turns, want := range []int{0, 8, 10, 10} {
		if n := must[int](t, "Fed")(grain.Fed(f, turns)); n != want {
			t.Errorf("Fed(%d): %d", turns, n)
		}
	}
	if n := must[int](t, "Empty")(grain.Empty(f)); n != 3 {
		t.Errorf("Empty: %d", n)
	}
}

// knocked lets grains fall knock by knock.
func knocked(f api.Feed, knocks int) (fed, left int) {
	left = f.Hopper
	for range knocks {
		n := min(f.Draw, left)
		fed, left = fed+n, left-n
	}
	return fed, left
}

// P3.1, G18 to G20, and P3.8: small feeds, knock by knock.
func TestFeeds(t *testing.T) {
	for hopper := range 30 {
		for draw := 1; draw < 12; draw++ {
			f := api.Feed{Hopper: hopper, Draw: draw, Knocks: 1 + (hopper+draw)%5}
			empty := must[int](t, "Empty")(grain.Empty(f))
			before := 0
			for n := range 35 {
				fed, left, e := grain.Drawn(f, n)
				wantFed, wantLeft := knocked(f, n)
				if e != api.OK || fed != wantFed || left != wantLeft || fed+left != hopper {
					t.Fatalf("Drawn of %v after %d knocks: %d, %d, error %d", f, n, fed, left, e)
				}
				if (n >= empty) != (left == 0) {
					t.Fatalf("Empty of %v: %d, but after %d knocks %d are left", f, empty, n, left)
				}
				turned := must[int](t, "Fed")(grain.Fed(f, n))
				if want, _ := knocked(f, n*f.Knocks); turned != want || turned < before {
					t.Fatalf("Fed of %v in %d turns: %d", f, n, turned)
				}
				before = turned
			}
		}
	}
}

// P3.1, G18 to G20: the ends of what is allowed.
func TestFeedsAtTheEnds(t *testing.T) {
	slow := api.Feed{Hopper: api.MaxGrains, Draw: 1, Knocks: 1}
	fast := api.Feed{Hopper: api.MaxGrains, Draw: api.MaxGrains, Knocks: api.MaxTeeth}
	for _, x := range []struct {
		f                     api.Feed
		n, fed, turned, empty int
	}{
		{slow, api.MaxTurns, api.MaxGrains, api.MaxGrains, api.MaxGrains},
		{slow, api.MaxTurns - 1, api.MaxGrains - 1, api.MaxGrains - 1, api.MaxGrains},
		{slow, 0, 0, 0, api.MaxGrains},
		{fast, api.MaxTurns, api.MaxGrains, api.MaxGrains, 1},
		{fast, 1, api.MaxGrains, api.MaxGrains, 1},
		{fast, 0, 0, 0, 1},
		{api.Feed{Hopper: 0, Draw: 5, Knocks: 5}, 9, 0, 0, 0},
		{api.Feed{Hopper: api.MaxGrains, Draw: 3, Knocks: api.MaxTeeth}, 100, 300, api.MaxGrains, 333334},
		{api.Feed{Hopper: api.MaxGrains, Draw: 3, Knocks: 1000}, 333, 999, 999000, 333334},
	} {
		fed, left, e := grain.Drawn(x.f, x.n)
		if e != api.OK || fed != x.fed || left != x.f.Hopper-x.fed {
			t.Errorf("Drawn of %v after %d knocks: %d, %d, error %d", x.f, x.n, fed, left, e)
		}
		if n := must[int](t, "Fed")(grain.Fed(x.f, x.n)); n != x.turned {
			t.Errorf("Fed of %v in %d turns: %d", x.f, x.n, n)
		}
		if n := must[int](t, "Empty")(grain.Empty(x.f)); n != x.empty {
			t.Errorf("Empty of %v: %d", x.f, n)
		}
	}
}

// P3.1: the errors of feeds; ErrFeed comes ahead of ErrArg.
func TestFeedErrors(t *testing.T) {
	good := api.Feed{Hopper: 10, Draw: 4, Knocks: 2}
	for _, n := range []int{-1, math.MinInt, api.MaxTurns + 1, math.MaxInt} {
		if fed, left, e := grain.Drawn(good, n); e != api.ErrArg || fed != 0 || left != 0 {
			t.Errorf("Drawn(%d): %d, %d, error %d", n, fed, left, e)
		}
		if fed, e := grain.Fed(good, n); e != api.ErrArg || fed != 0 {
			t.Errorf("Fed(%d): %d, error %d", n, fed, e)
		}
	}
	for _, f := range badFeeds() {
		for _, n := range []int{1, -1, math.MaxInt} {
			if fed, left, e := grain.Drawn(f, n); e != api.ErrFeed || fed != 0 || left != 0 {
				t.Errorf("Drawn of %v after %d knocks: %d, %d, error %d", f, n, fed, left, e)
			}
			if fed, e := grain.Fed(f, n); e != api.ErrFeed || fed != 0 {
				t.Errorf("Fed of %v in %d turns: %d, error %d", f, n, fed, e)
			}
		}
		if n, e := grain.Empty(f); e != api.ErrFeed || n != 0 {
			t.Errorf("Empty of %v: %d, error %d", f, n, e)
		}
	}
}
