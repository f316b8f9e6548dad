package tallies_test

import (
	"bytes"
	"math/rand"
	"slices"
	"testing"

	"millrind/api"
	"millrind/tallies"
)

func notch(t *testing.T, b []byte) (stock, foil []byte) {
	t.Helper()
	stock, foil, e := tallies.Notch(b)
	want(t, "Notch: error", e, api.OK)
	return stock, foil
}

// heavy returns bytes whose sum is as it says: with such a long list the check goes around.
func heavy(sum int) []byte {
	b := make([]byte, 257)
	b[256] = byte(min(255, sum/257))
	b[0] = byte(sum - 257*int(b[256]))
	return b
}

// P9.1, T3: the halves of a tally, with the chapter's examples and sums around the modulus.
func TestNotches(t *testing.T) {
	for _, x := range []struct{ b, stock, foil []byte }{
		{[]byte{7}, []byte{1, 0, 7}, []byte{1, 0, 8, 0}},
		{nil, []byte{0, 0}, []byte{0, 0, 1, 0}},
		{[]byte{0}, []byte{1, 0, 0}, []byte{1, 0, 1, 0}},
		{[]byte{0, 0}, []byte{2, 0, 0, 0}, []byte{2, 0, 1, 0}},
		{[]byte{1, 2, 3}, []byte{3, 0, 1, 2, 3}, []byte{3, 0, 15, 0}},
		{[]byte{3, 2, 1}, []byte{3, 0, 3, 2, 1}, []byte{3, 0, 11, 0}},
		{[]byte{255, 255}, []byte{2, 0, 255, 255}, []byte{2, 0, 254, 2}},
	} {
		stock, foil := notch(t, x.b)
		want(t, "the stock", stock, x.stock)
		want(t, "the foil", foil, x.foil)
	}
	for sum, check := range map[int][]byte{65519: {1, 1, 240, 255}, 65520: {1, 1, 0, 0}, 65521: {1, 1, 1, 0}, 65535: {1, 1, 15, 0}} {
		_, foil := notch(t, heavy(sum))
		want(t, "the foil of a heavy list", foil, check)
	}
	for _, size := range []int{255, 256, 257, 4096, 8191, 8192} {
		b := bytes.Repeat([]byte{255, 254}, size)[:size]
		stock, foil := notch(t, b)
		s, f := modelHalves(b)
		want(t, "the stock of a long list", stock, s)
		want(t, "the foil of a long list", foil, f)
	}
	for _, size := range []int{8193, 65536, 65537, 1 << 20} {
		stock, foil, e := tallies.Notch(make([]byte, size))
		want(t, "too long a list", []any{len(stock), len(foil), e}, []any{0, 0, api.ErrLimit})
	}
}

func wantJoin(t *testing.T, what string, stock, foil []byte) [][]byte {
	t.Helper()
	l, s, f := tallies.Join(stock, foil)
	ml, ms, mf := modelJoin(stock, foil)
	if s != ms || f != mf || !slices.EqualFunc(l, ml, bytes.Equal) {
		t.Errorf("%s: Join of %d and %d bytes tells %d lists in %d, %d; want %d in %d, %d", what, len(stock), len(foil), len(l), s, f, len(ml), ms, mf)
	}
	return l
}

// P9.1, T4: what journals tell together, with the chapter's examples and all reasons to end.
func TestJoin(t *testing.T) {
	long, head := make([]byte, 8193), []byte{1, 32}
	fromHead := slices.Concat[[]byte]
	_, foil := modelHalves(heavy(65520))
	for what, x := range map[string]struct {
		stock, foil []byte
		n, s, f     int
	}{
		"nothing":                       {nil, nil, 0, 0, 0},
		"7 and nothing, the foil of 7":  {[]byte{1, 0, 7, 0, 0}, []byte{1, 0, 8, 0}, 1, 3, 4},
		"7 and nothing, both foils":     {[]byte{1, 0, 7, 0, 0}, []byte{1, 0, 8, 0, 0, 0, 1, 0}, 2, 5, 8},
		"nothing and 7":                 {[]byte{0, 0, 1, 0, 7}, []byte{0, 0, 1, 0, 1, 0, 8, 0}, 2, 5, 8},
		"a wrong byte":                  {[]byte{1, 0, 6}, []byte{1, 0, 8, 0}, 0, 0, 0},
		"a wrong check":                 {[]byte{1, 0, 7}, []byte{1, 0, 9, 0}, 0, 0, 0},
		"a check too high":              {[]byte{1, 0, 7}, []byte{1, 0, 8, 1}, 0, 0, 0},
		"another length of the foil":    {[]byte{1, 0, 7}, []byte{2, 0, 8, 0}, 0, 0, 0},
		"another length of the stock":   {[]byte{0, 0, 7}, []byte{1, 0, 8, 0}, 0, 0, 0},
		"a length that differs by 256":  {[]byte{1, 0, 7}, []byte{1, 1, 8, 0}, 0, 0, 0},
		"a torn stock":                  {[]byte{2, 0, 7}, []byte{2, 0, 8, 0}, 0, 0, 0},
		"a stock without bytes":         {[]byte{1, 0}, []byte{1, 0, 8, 0}, 0, 0, 0},
		"half a length":                 {[]byte{0}, []byte{0, 0, 1, 0}, 0, 0, 0},
		"a torn foil":                   {[]byte{1, 0, 7}, []byte{1, 0, 8}, 0, 0, 0},
		"a foil of a length":            {[]byte{1, 0, 7}, []byte{1, 0}, 0, 0, 0},
		"a stock without a foil":        {[]byte{1, 0, 7}, nil, 0, 0, 0},
		"a foil without a stock":        {nil, []byte{1, 0, 8, 0}, 0, 0, 0},
		"the second one is wrong":       {[]byte{1, 0, 7, 1, 0, 7, 1, 0, 7}, []byte{1, 0, 8, 0, 1, 0, 7, 0, 1, 0, 8, 0}, 1, 3, 4},
		"the second one is torn":        {[]byte{1, 0, 7, 1, 0}, []byte{1, 0, 8, 0, 1, 0, 7, 0}, 1, 3, 4},
		"too long a list":               {fromHead(head, long), []byte{1, 32, 1, 0}, 0, 0, 0},
		"behind a list too long":        {fromHead([]byte{0, 0}, head, long), []byte{0, 0, 1, 0, 1, 32, 1, 0}, 1, 2, 4},
		"the longest list":              {fromHead([]byte{0, 32}, long[1:]), []byte{0, 32, 1, 0}, 1, 8194, 4},
		"a length of 65535":             {fromHead([]byte{255, 255}, make([]byte, 65535)), []byte{255, 255, 1, 0}, 0, 0, 0},
		"a check of 0":                  {fromHead([]byte{1, 1}, heavy(65520)), foil, 1, 259, 4},
		"a check of the modulus itself": {fromHead([]byte{1, 1}, heavy(65520)), []byte{1, 1, 241, 255}, 0, 0, 0},
	} {
		l, s, f := tallies.Join(x.stock, x.foil)
		want(t, what, []int{len(l), s, f}, []int{x.n, x.s, x.f})
		wantJoin(t, what, x.stock, x.foil)
	}
	l, _, _ := tallies.Join([]byte{1, 0, 7, 0, 0}, []byte{1, 0, 8, 0, 0, 0, 1, 0})
	want(t, "7 and nothing", l, [][]byte{{7}, {}})
}

func someLists(rng *rand.Rand) [][]byte {
	l := make([][]byte, rng.Intn(6))
	for i := range l {
		size := rng.Intn(12)
		if rng.Intn(20) == 0 {
			size = fromTo(rng, 8000, 8192)
		}
		l[i] = make([]byte, size)
		rng.Read(l[i])
	}
	return l
}

// P9.2: halves are joined to the same bytes; a bit that is inverted ends what is told just there; and longer journals tell the same, and more.
func TestBothHalves(t *testing.T) {
	rng := rand.New(rand.NewSource(92))
	for range 300 {
		l := someLists(rng)
		var stock, foil []byte
		var stockEnds, foilEnds []int
		for _, b := range l {
			s, f := notch(t, b)
			stock, foil = append(stock, s...), append(foil, f...)
			stockEnds, foilEnds = append(stockEnds, len(stock)), append(foilEnds, len(foil))
		}
		got, s, f := tallies.Join(stock, foil)
		want(t, "joined", len(got), len(l))
		want(t, "taken", []int{s, f}, []int{len(stock), len(foil)})
		wantBeginning(t, "joined", got, l, len(l))
		for _, journal := range []struct {
			b    []byte
			ends []int
		}{{stock, stockEnds}, {foil, foilEnds}} {
			for _, bit := range someBits(rng, len(journal.b)) {
				ahead, _ := slices.BinarySearch(journal.ends, bit/8+1)
				journal.b[bit/8] ^= 1 << (bit % 8)
				wantBeginning(t, "an inverted bit", wantJoin(t, "an inverted bit", stock, foil), l, ahead)
				journal.b[bit/8] ^= 1 << (bit % 8)
			}
		}
		for range 10 {
			s, f := rng.Intn(len(stock)+1), rng.Intn(len(foil)+1)
			whole := func(ends []int, size int) int { return len(ends) - countAbove(ends, size) }
			wantBeginning(t, "shorter journals", wantJoin(t, "shorter journals", stock[:s], foil[:f]), l, min(whole(stockEnds, s), whole(foilEnds, f)))
		}
	}
}

func countAbove(l []int, n int) int {
	count := 0
	for _, x := range l {
		if x > n {
			count++
		}
	}
	return count
}

// someBits returns all bits of a short journal, and some of a long one.
func someBits(rng *rand.Rand, size int) []int {
	var bits []int
	for bit := range 8 * size {
		if size < 300 || rng.Intn(size) == 0 {
			bits = append(bits, bit)
		}
	}
	return bits
}

// wantBeginning checks that lists are the first ones of others.
func wantBeginning(t *testing.T, what string, got, all [][]byte, count int) {
	t.Helper()
	if len(got) != count || !slices.EqualFunc(got, all[:min(count, len(all))], bytes.Equal) {
		t.Errorf("%s: %d of %d lists are told, want %d", what, len(got), len(all), count)
	}
}

// P9.1, T4, P9.2: journals of any bytes, and what longer ones tell.
func TestAnyJournals(t *testing.T) {
	rng := rand.New(rand.NewSource(94))
	told := 0
	for range 20000 {
		stock, foil := modelJournals(someLists(rng))
		for _, b := range []*[]byte{&stock, &foil} {
			for range rng.Intn(2) {
				at := rng.Intn(len(*b) + 1)
				*b = cut(*b, at, min(len(*b), at+rng.Intn(3)), []byte{0, 0, 1, 0, 9}[rng.Intn(5):]...)
			}
		}
		l := wantJoin(t, "any journals", stock, foil)
		told += len(l)
		more := wantJoin(t, "longer journals", append(slices.Clone(stock), 0, 0, 1), append(slices.Clone(foil), 0, 0, 1, 0))
		if len(more) < len(l) || !slices.EqualFunc(l, more[:len(l)], bytes.Equal) {
			t.Errorf("%d lists are told, but by longer journals %d", len(l), len(more))
		}
		if t.Failed() {
			t.Fatalf("the journals are %v and %v", stock, foil)
		}
	}
	if told < 10000 {
		t.Errorf("%d lists are told", told)
	}
}

// R7: halves and lists are new memory, and share none.
func TestHalvesAreNew(t *testing.T) {
	b := []byte{1, 2, 3}
	stock, foil := notch(t, b)
	l, _, _ := tallies.Join(slices.Concat(stock, stock), slices.Concat(foil, foil))
	b[0] = 9
	want(t, "the stock", stock, []byte{3, 0, 1, 2, 3})
	_ = append(stock[:2], 8, 8, 8)
	_ = append(foil[:2], 8, 8)
	want(t, "the lists", l, [][]byte{{1, 2, 3}, {1, 2, 3}})
	_ = append(l[0], 7, 7, 7, 7)
	l[0][2] = 7
	want(t, "the second list", l[1], []byte{1, 2, 3})
	stock, foil = notch(t, []byte{1, 2, 3})
	l, _, _ = tallies.Join(stock, foil)
	clear(stock)
	clear(foil)
	want(t, "the list of journals that were cleared", l, [][]byte{{1, 2, 3}})
}
