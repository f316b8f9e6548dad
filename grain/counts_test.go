package grain

import (
	"maps"
	"math/rand/v2"
	"slices"
	"testing"

	"millrind/api"
)

// countsOf joins numbers one by one.
func countsOf(l []int) counts {
	c := counts{span: api.Span{Lo: l[0], Hi: l[0]}}
	for _, n := range l[1:] {
		c = c.joined(counts{span: api.Span{Lo: n, Hi: n}})
	}
	return c
}

// randomNumbers returns numbers up to wide: a few ones, or nearly all.
func randomNumbers(r *rand.Rand, wide int) []int {
	from, share := r.IntN(100), r.IntN(11)
	l := []int{from + r.IntN(wide)}
	for n := range wide {
		if r.IntN(10) < share {
			l = append(l, from+n)
		}
	}
	r.Shuffle(len(l), func(i, j int) { l[i], l[j] = l[j], l[i] })
	return l
}

// P3.1: sets of cuts as they are joined and shifted, against sets as maps.
func TestCounts(t *testing.T) {
	r := rand.New(rand.NewPCG(51, 52))
	for _, wide := range []int{1, 3, 63, 64, 65, 128, 129, 500} {
		for range 60 {
			k, l := randomNumbers(r, wide), randomNumbers(r, wide)
			by := r.IntN(200)
			set := map[int]bool{}
			for _, n := range k {
				set[n] = true
			}
			for _, n := range l {
				set[n+by] = true
			}
			want := slices.Sorted(maps.Keys(set))
			c, d := countsOf(k), countsOf(l)
			before := d.list()
			for _, both := range []counts{c.joined(d.shifted(by)), d.shifted(by).joined(c)} {
				checkCounts(t, r, both, want)
			}
			if !slices.Equal(d.list(), before) || len(d.shifted(by).list()) != len(before) {
				t.Fatalf("joined numbers have changed: %v, were %v", d.list(), before)
			}
		}
	}
}

// checkCounts checks what counts tell of, and that they have no bits if all numbers are among them.
func checkCounts(t *testing.T, r *rand.Rand, c counts, want []int) {
	t.Helper()
	lo, hi := want[0], want[len(want)-1]
	if !slices.Equal(c.list(), want) || c.span != (api.Span{Lo: lo, Hi: hi}) {
		t.Fatalf("got %v, want %v", c.list(), want)
	}
	if (c.bits == nil) != (hi-lo+1 == len(want)) {
		t.Fatalf("%d words of bits for %v", len(c.bits), want)
	}
	for n := lo - 70; n <= hi+70; n++ {
		if c.has(n) != slices.Contains(want, n) {
			t.Fatalf("has(%d) of %v", n, want)
		}
	}
	for range 20 {
		x := api.Span{Lo: lo - 5 + r.IntN(hi-lo+10)}
		x.Hi = x.Lo + r.IntN(9)
		some := slices.ContainsFunc(want, func(n int) bool { return n >= x.Lo && n <= x.Hi })
		if c.hasAny(x) != some {
			t.Fatalf("hasAny(%v) of %v", x, want)
		}
	}
}

// P3.1: sizes that are alike are bitten by the same gaps, also after each number of cuts; those that are not, are not.
func TestAlikeSizes(t *testing.T) {
	bitten := func(gap []int, size int) [13 * 4]bool {
		var l [13 * 4]bool
		for times := range 13 {
			for i, width := range gap {
				l[times*4+i] = width < halved(size, times)
			}
		}
		return l
	}
	for _, gap := range [][]int{{0}, {1}, {3, 1}, {7, 2, 0}, {100, 50, 25}, {api.MaxSize}, {api.MaxSize - 1, 2047}, {2048, 1000, 17, 4}} {
		all := alikeSizes(gap, api.MaxSize)
		for size := 1; size <= api.MaxSize; size++ {
			if all[size] > size || bitten(gap, all[size]) != bitten(gap, size) {
				t.Fatalf("%d is not like %d with the gaps %v", all[size], size, gap)
			}
			if all[size] > 1 && bitten(gap, all[size]-1) == bitten(gap, all[size]) {
				t.Fatalf("%d is like a lesser one than %d with the gaps %v", size, all[size], gap)
			}
		}
		for _, most := range []int{1, 2, 77} {
			if !slices.Equal(alikeSizes(gap, most), all[:most+1]) {
				t.Fatalf("sizes up to %d alike with the gaps %v", most, gap)
			}
		}
	}
}
