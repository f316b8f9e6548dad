package gears_test

import (
	"math"
	"math/rand"
	"testing"

	"millrind/api"
	"millrind/gears"
)

// P7.1, W1: ratios are in lowest terms, and within both bounds.
func TestValidRatio(t *testing.T) {
	for _, r := range []api.Ratio{{Num: 0, Den: 1}, {Num: 1, Den: 1}, {Num: 3, Den: 2}, {Num: 2, Den: 3}, {Num: 1000000000, Den: 1}, {Num: 1, Den: 1000000000}, {Num: 999999999, Den: 1000000000}} {
		want(t, "ValidRatio", gears.ValidRatio(r), true)
	}
	for _, r := range []api.Ratio{
		{}, {Num: 1}, {Num: 0, Den: 2}, {Num: 2, Den: 2}, {Num: 2, Den: 4}, {Num: 15, Den: 6}, {Num: 1000000000, Den: 1000000000},
		{Num: -1, Den: 1}, {Num: 1, Den: -1}, {Num: -1, Den: -1}, {Num: 0, Den: -1}, {Num: 1000000001, Den: 1}, {Num: 1, Den: 1000000001},
		{Num: math.MinInt, Den: 1}, {Num: 1, Den: math.MinInt}, {Num: math.MaxInt, Den: 2}, {Num: 2, Den: math.MaxInt}, {Num: math.MinInt, Den: -1},
	} {
		want(t, "ValidRatio of none", gears.ValidRatio(r), false)
	}
}

// P7.1, W2: the examples, lowest terms, and what is too large or no fraction.
func TestReduce(t *testing.T) {
	for _, x := range []struct {
		num, den int
		want     api.Ratio
		e        api.Errno
	}{
		{12, 8, ratio(3, 2), api.OK},
		{0, 5, ratio(0, 1), api.OK},
		{0, 1, ratio(0, 1), api.OK},
		{0, math.MaxInt, ratio(0, 1), api.OK},
		{5, 5, ratio(1, 1), api.OK},
		{1000000000, 1, ratio(1000000000, 1), api.OK},
		{1, 1000000000, ratio(1, 1000000000), api.OK},
		{3000000000, 3, ratio(1000000000, 1), api.OK},
		{7, 7000000000, ratio(1, 1000000000), api.OK},
		{math.MaxInt, math.MaxInt, ratio(1, 1), api.OK},
		{math.MaxInt - 1, math.MaxInt / 2, ratio(2, 1), api.OK},
		{1000000001, 1, api.Ratio{}, api.ErrLimit},
		{1, 1000000001, api.Ratio{}, api.ErrLimit},
		{2000000002, 2, api.Ratio{}, api.ErrLimit},
		{math.MaxInt, 1, api.Ratio{}, api.ErrLimit},
		{1, math.MaxInt, api.Ratio{}, api.ErrLimit},
		{math.MaxInt, math.MaxInt - 1, api.Ratio{}, api.ErrLimit},
		{-1, 1, api.Ratio{}, api.ErrArg},
		{1, 0, api.Ratio{}, api.ErrArg},
		{0, 0, api.Ratio{}, api.ErrArg},
		{1, -1, api.Ratio{}, api.ErrArg},
		{-2, -1, api.Ratio{}, api.ErrArg},
		{math.MinInt, math.MinInt, api.Ratio{}, api.ErrArg},
		{math.MaxInt, 0, api.Ratio{}, api.ErrArg},
	} {
		r, e := gears.Reduce(x.num, x.den)
		wantBoth(t, "Reduce", r, e, x.want, x.e)
	}
	rng := rand.New(rand.NewSource(1))
	for range 2000 {
		most := []int{10, 1000, 3000000000, math.MaxInt}[rng.Intn(4)]
		num, den := rng.Intn(most), 1+rng.Intn(most-1)
		r, e := gears.Reduce(num, den)
		expected, fault := modelRatio(rat(num, den))
		wantBoth(t, "Reduce", r, e, expected, fault)
	}
}

// P7.1, W3 to W5: the chapter's examples.
func TestRatioExamples(t *testing.T) {
	want(t, "Times", must[api.Ratio](t, "Times")(gears.Times(ratio(3, 2), ratio(4, 9))), ratio(2, 3))
	want(t, "Plus", must[api.Ratio](t, "Plus")(gears.Plus(ratio(1, 6), ratio(1, 10))), ratio(4, 15))
	want(t, "Compare", must[int](t, "Compare")(gears.Compare(ratio(2, 3), ratio(3, 5))), 1)
}

// P7.1, W3 to W5: the ends of what may be; only the lowest terms of the result may be too large.
func TestLargeRatios(t *testing.T) {
	many, few := ratio(1000000000, 999999999), ratio(999999999, 1000000000)
	for _, x := range []struct {
		what string
		call func(a, b api.Ratio) (api.Ratio, api.Errno)
		a, b api.Ratio
		want api.Ratio
		e    api.Errno
	}{
		{"Times", gears.Times, many, few, ratio(1, 1), api.OK},
		{"Times", gears.Times, ratio(1000000000, 1), ratio(1, 1000000000), ratio(1, 1), api.OK},
		{"Times", gears.Times, ratio(1000000000, 1), ratio(0, 1), ratio(0, 1), api.OK},
		{"Times", gears.Times, ratio(0, 1), ratio(1, 1000000000), ratio(0, 1), api.OK},
		{"Times", gears.Times, ratio(0, 1), ratio(0, 1), ratio(0, 1), api.OK},
		{"Times", gears.Times, ratio(40000, 1), ratio(25000, 1), ratio(1000000000, 1), api.OK},
		{"Times", gears.Times, ratio(1, 40000), ratio(1, 25001), api.Ratio{}, api.ErrLimit},
		{"Times", gears.Times, ratio(40000, 1), ratio(25001, 1), api.Ratio{}, api.ErrLimit},
		{"Times", gears.Times, many, many, api.Ratio{}, api.ErrLimit},
		{"Times", gears.Times, few, few, api.Ratio{}, api.ErrLimit},
		{"Plus", gears.Plus, few, ratio(1, 1000000000), ratio(1, 1), api.OK},
		{"Plus", gears.Plus, ratio(999999999, 1), ratio(1, 1), ratio(1000000000, 1), api.OK},
		{"Plus", gears.Plus, ratio(0, 1), few, few, api.OK},
		{"Plus", gears.Plus, ratio(500000000, 1), ratio(500000001, 1), api.Ratio{}, api.ErrLimit},
		{"Plus", gears.Plus, ratio(1, 1000000000), ratio(1, 999999999), api.Ratio{}, api.ErrLimit},
		{"Plus", gears.Plus, many, ratio(999999998, 999999997), api.Ratio{}, api.ErrLimit},
		{"Plus", gears.Plus, ratio(1000000000, 1), ratio(1000000000, 1), api.Ratio{}, api.ErrLimit},
	} {
		r, e := x.call(x.a, x.b)
		wantBoth(t, x.what, r, e, x.want, x.e)
	}
	want(t, "Compare", must[int](t, "Compare")(gears.Compare(ratio(999999999, 1000000000), ratio(999999998, 999999999))), 1)
	want(t, "Compare", must[int](t, "Compare")(gears.Compare(ratio(999999998, 999999999), ratio(999999999, 1000000000))), -1)
	want(t, "Compare", must[int](t, "Compare")(gears.Compare(ratio(1000000000, 1), ratio(1, 1000000000))), 1)
	want(t, "Compare", must[int](t, "Compare")(gears.Compare(few, few)), 0)
	want(t, "Compare", must[int](t, "Compare")(gears.Compare(ratio(0, 1), ratio(1, 1000000000))), -1)
}

// P7.1, W3 to W5: random ratios against reckoning without bounds.
func TestReckoning(t *testing.T) {
	rng := rand.New(rand.NewSource(2))
	for range 20000 {
		a, b := anyRatio(rng), anyRatio(rng)
		r, e := gears.Times(a, b)
		expected, fault := modelRatio(times(ratOf(a), ratOf(b)))
		wantBoth(t, "Times", r, e, expected, fault)
		r, e = gears.Plus(a, b)
		expected, fault = modelRatio(plus(ratOf(a), ratOf(b)))
		wantBoth(t, "Plus", r, e, expected, fault)
		n, e := gears.Compare(a, b)
		wantBoth(t, "Compare", n, e, ratOf(a).Cmp(ratOf(b)), api.OK)
		want(t, "ValidRatio", gears.ValidRatio(a), true)
		factor := fromTo(rng, 2, 5)
		want(t, "ValidRatio", gears.ValidRatio(ratio(factor*a.Num, factor*a.Den)), false)
	}
}

// sums returns a + b + c, both ways round, and the same of products, if no call has an error.
func sums(a, b, c api.Ratio, call func(a, b api.Ratio) (api.Ratio, api.Errno)) (left, right api.Ratio, is bool) {
	ab, e1 := call(a, b)
	bc, e2 := call(b, c)
	left, e3 := call(ab, c)
	right, e4 := call(a, bc)
	return left, right, e1 == api.OK && e2 == api.OK && e3 == api.OK && e4 == api.OK
}

// P7.2: the order of arguments, which two come first, sums of products, and what is done to both sides of a comparison.
func TestRatioLaws(t *testing.T) {
	rng := rand.New(rand.NewSource(3))
	held := [4]int{}
	for range 20000 {
		a, b, c := anyRatio(rng), anyRatio(rng), anyRatio(rng)
		for i, call := range []func(a, b api.Ratio) (api.Ratio, api.Errno){gears.Times, gears.Plus} {
			ab, e := call(a, b)
			ba, f := call(b, a)
			wantBoth(t, "the other order", ba, f, ab, e)
			if left, right, is := sums(a, b, c, call); is {
				held[i]++
				want(t, "other two first", right, left)
			}
		}
		if isDistributed(t, a, b, c) {
			held[2]++
		}
		if isKeptInOrder(t, a, b, c) {
			held[3]++
		}
	}
	for _, n := range held {
		want(t, "each law has been asked often", n > 1000, true)
	}
}

// isDistributed checks that c * (a + b) is c * a + c * b; false, if a call has an error.
func isDistributed(t *testing.T, a, b, c api.Ratio) bool {
	t.Helper()
	sum, e1 := gears.Plus(a, b)
	whole, e2 := gears.Times(c, sum)
	ca, e3 := gears.Times(c, a)
	cb, e4 := gears.Times(c, b)
	parts, e5 := gears.Plus(ca, cb)
	if e1 != api.OK || e2 != api.OK || e3 != api.OK || e4 != api.OK || e5 != api.OK {
		return false
	}
	want(t, "Times of a sum", whole, parts)
	return true
}

// isKeptInOrder checks that a and b compare as before with c added and multiplied; false, if a call has an error.
func isKeptInOrder(t *testing.T, a, b, c api.Ratio) bool {
	t.Helper()
	before := must[int](t, "Compare")(gears.Compare(a, b))
	want(t, "the other way round", must[int](t, "Compare")(gears.Compare(b, a)), -before)
	ac, e1 := gears.Plus(a, c)
	bc, e2 := gears.Plus(b, c)
	at, e3 := gears.Times(a, c)
	bt, e4 := gears.Times(b, c)
	if e1 != api.OK || e2 != api.OK || e3 != api.OK || e4 != api.OK {
		return false
	}
	want(t, "with a number added", must[int](t, "Compare")(gears.Compare(ac, bc)), before)
	if c.Num == 0 {
		before = 0
	}
	want(t, "with a number multiplied", must[int](t, "Compare")(gears.Compare(at, bt)), before)
	return true
}

// P7.1, Errors: a ratio that is none, first or second, is ErrRatio.
func TestRatioErrors(t *testing.T) {
	good := ratio(1000000000, 1)
	for _, bad := range []api.Ratio{{}, {Num: 2, Den: 4}, {Num: 0, Den: 3}, {Num: -1, Den: 1}, {Num: 1, Den: -1}, {Num: 1000000001, Den: 1}, {Num: 1, Den: 1000000001}, {Num: math.MinInt, Den: math.MinInt}, {Num: math.MaxInt, Den: 1}} {
		for _, x := range [][2]api.Ratio{{good, bad}, {bad, good}, {bad, bad}} {
			r, e := gears.Times(x[0], x[1])
			wantBoth(t, "Times", r, e, api.Ratio{}, api.ErrRatio)
			r, e = gears.Plus(x[0], x[1])
			wantBoth(t, "Plus", r, e, api.Ratio{}, api.ErrRatio)
			n, e := gears.Compare(x[0], x[1])
			wantBoth(t, "Compare", n, e, 0, api.ErrRatio)
		}
	}
	r, e := gears.Times(good, good)
	wantBoth(t, "Times", r, e, api.Ratio{}, api.ErrLimit)
}
