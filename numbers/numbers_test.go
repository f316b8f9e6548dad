package numbers_test

import (
	"bytes"
	"math"
	"slices"
	"testing"

	"millrind/numbers"
)

// The encodings of layer 9, with the chapter's examples.
func TestEncodings(t *testing.T) {
	for n, b := range map[int][]byte{
		0: {0}, -1: {1}, 1: {2}, 5: {10}, 63: {126}, -64: {127}, 64: {128, 1}, -65: {129, 1}, 8191: {254, 127}, 8192: {128, 128, 1},
		numbers.Most:  {254, 255, 255, 255, 255, 255, 255, 255, 127},
		numbers.Least: {255, 255, 255, 255, 255, 255, 255, 255, 127},
	} {
		if !numbers.Fits(n) {
			t.Errorf("%d does not fit", n)
		}
		if got := numbers.Append([]byte{7}, n); !bytes.Equal(got, append([]byte{7}, b...)) {
			t.Errorf("%d: got %v", n, got)
		}
		got, rest, is := numbers.Take(append(slices.Clone(b), 128, 7))
		if !is || got != n || !bytes.Equal(rest, []byte{128, 7}) {
			t.Errorf("%d: got %d, and %v is left", n, got, rest)
		}
	}
	for _, n := range []int{numbers.Most + 1, numbers.Least - 1, math.MaxInt, math.MinInt} {
		if numbers.Fits(n) {
			t.Errorf("%d fits", n)
		}
	}
}

// Bytes that begin with no number: torn ones, ones that are longer than is needed, and ones beyond all numbers.
func TestNoNumbers(t *testing.T) {
	for _, b := range [][]byte{
		nil, {128}, {255, 255}, {128, 0}, {255, 0}, {128, 128, 0, 1},
		bytes.Repeat([]byte{255}, 9), append(bytes.Repeat([]byte{128}, 9), 0), append(bytes.Repeat([]byte{128}, 9), 1), bytes.Repeat([]byte{200}, 50),
	} {
		if n, rest, is := numbers.Take(b); is || n != 0 || len(rest) != 0 {
			t.Errorf("%v: got %d, and %v is left", b, n, rest)
		}
	}
}
