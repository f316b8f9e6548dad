package truth_test

import (
	"math/rand"
	"testing"

	"millrind/api"
	"millrind/truth"
)

// wantLead checks Least, Lead and Count; no lead means that there is none.
func wantLead(t *testing.T, what string, s api.Stone, lead []int, count int) {
	t.Helper()
	e := api.OK
	if count == 0 {
		e = api.ErrBalance
	}
	n, got := truth.Least(s)
	wantError(t, what+": Least", got, e)
	want(t, what+": Least", n, total(lead))
	l, got := truth.Lead(s)
	wantError(t, what+": Lead", got, e)
	wantList(t, what+": Lead", l, lead)
	want(t, what+": Count", must[int](t, what+": Count")(truth.Count(s)), count)
}

// P6.1, T6 to T8: the examples of the chapter.
func TestExampleLeads(t *testing.T) {
	wantLead(t, "the example", example(3), []int{2, 0}, 1)
	wantLead(t, "the example with less lead", example(1), nil, 0)
}

// P6.1, T6 to T8: stones without pockets, pockets that hold nothing, and the first of several leads of one sum.
func TestFewLeads(t *testing.T) {
	wantLead(t, "no pockets", heavy(0, 0, 0), nil, 1)
	wantLead(t, "no pockets and a moment", heavy(1, 0, 5), nil, 0)
	wantLead(t, "empty pockets", heavy(0, 0, 0, pocket(1, 1, 0), pocket(2, 2, 0)), []int{0, 0}, 1)
	wantLead(t, "the first of two", heavy(1, 0, 0, pocket(-3, 0, 2), pocket(-3, 0, 2)), []int{0, 2}, 3)
	wantLead(t, "not the first, but the least", heavy(1, 0, 0, pocket(-6, 0, 9), pocket(-1, 0, 9), pocket(-5, 0, 9)), []int{1, 0, 0}, 3)
	wantLead(t, "arms of nothing", heavy(0, 0, 0, pocket(0, 0, 255), pocket(0, 0, 9)), []int{0, 0}, 2560)
	wantLead(t, "the last lead of all", heavy(8, -8, 0, pocket(-16, 16, 1), pocket(-4, 4, 3), pocket(-2, 2, 10)), []int{1, 3, 10}, 1)
}

// P6.1, P6.2, P0.5, T6 to T8: of all leads of a small stone that balance it, Lead is the first one of those with the least sum.
func TestLeadsOfSmallStones(t *testing.T) {
	none := 0
	eachSmallStone(2000, func(_ *rand.Rand, s api.Stone) {
		all := balancingOf(s)
		if len(all) == 0 {
			none++
			wantLead(t, "a stone that no lead balances", s, nil, 0)
			return
		}
		best := all[0]
		for _, l := range all {
			if total(l) < total(best) {
				best = l
			}
		}
		wantLead(t, "a small stone", s, best, len(all))
	})
	if none < 300 || none > 1700 {
		t.Errorf("%d of 2000 stones cannot be balanced", none)
	}
}

// P6.1, Terms: with just MaxTree leads a stone is not rich; with 200005 or more it is.
func TestRichStones(t *testing.T) {
	s := heavy(0, 0, 5, pocket(-1, 0, 199), pocket(0, -1, 249), pocket(-7, -7, 3))
	wantLead(t, "200000 leads", s, []int{0, 0, 0}, 36)
	proved(t, "200000 leads", s)
	s = heavy(199, 249, 0, pocket(-6, 0, 199), pocket(0, -6, 249), pocket(0, -100000, 3))
	wantLead(t, "the greatest of 200000 leads", s, []int{199, 249, 0}, 1)
	proved(t, "the greatest of 200000 leads", s)
	for _, most := range [][]int{{180, 84, 12}, {199, 250, 3}, {255, 255, 3}, {255, 255, 255, 255, 255, 255, 255, 255}, {255, 255, 255, 255, 0, 0, 0, 0}, {255, 0, 255, 0, 255, 0, 255, 0}} {
		s := heavy(0, 0, 5)
		for _, n := range most {
			s.Pockets = append(s.Pockets, pocket(1, 1, n))
		}
		_, e := truth.Lead(s)
		wantError(t, "Lead of a rich stone", e, api.ErrLimit)
	}
}
