package grain

import (
	"math/bits"

	"millrind/api"
)

// wordBits is how many numbers a word of counts tells of.
const wordBits = 64

// counts are numbers of cuts, at least one: the first and the last one, and a bit for each number between them; without bits, all these numbers. What is made of counts may share their bits, which never change.
type counts struct {
	span api.Span
	bits []uint64
}

// shifted returns numbers that are all greater by so much.
func (c counts) shifted(by int) counts {
	return counts{api.Span{Lo: c.span.Lo + by, Hi: c.span.Hi + by}, c.bits}
}

func (c counts) has(n int) bool {
	if n < c.span.Lo || n > c.span.Hi {
		return false
	}
	i := n - c.span.Lo
	return c.bits == nil || c.bits[i/wordBits]>>(i%wordBits)&1 == 1
}

// hasAny reports whether one of the numbers is in a span.
func (c counts) hasAny(x api.Span) bool {
	if x.Hi >= c.span.Hi {
		return x.Lo <= c.span.Hi
	}
	for n := max(x.Lo, c.span.Lo); n <= x.Hi; n++ {
		if c.has(n) {
			return true
		}
	}
	return false
}

// list returns all numbers, increasing.
func (c counts) list() []int {
	var l []int
	for i := range length(c.span) {
		if n := c.span.Lo + i; c.has(n) {
			l = append(l, n)
		}
	}
	return l
}

// joined returns the numbers of both.
func (c counts) joined(d counts) counts {
	x := api.Span{Lo: min(c.span.Lo, d.span.Lo), Hi: max(c.span.Hi, d.span.Hi)}
	if c.covers(x) {
		return c
	}
	if d.covers(x) {
		return d
	}
	if c.bits == nil && d.bits == nil && touch(c.span, d.span) {
		return counts{span: x}
	}
	words := make([]uint64, wordsFor(x))
	c.mark(words, x.Lo)
	d.mark(words, x.Lo)
	ones := 0
	for _, w := range words {
		ones += bits.OnesCount64(w)
	}
	if ones == length(x) {
		return counts{span: x}
	}
	return counts{x, words}
}

// covers reports whether all numbers of a span are among them, without a look at each one.
func (c counts) covers(x api.Span) bool {
	return c.bits == nil && c.span.Lo <= x.Lo && x.Hi <= c.span.Hi
}

// mark sets the bits of all numbers in words whose first bit is that of a number from.
func (c counts) mark(words []uint64, from int) {
	first, shift := (c.span.Lo-from)/wordBits, (c.span.Lo-from)%wordBits
	for i, w := range c.words() {
		words[first+i] |= w << shift
		// A shift by all bits of a word leaves nothing.
		if rest := w >> (wordBits - shift); rest != 0 {
			words[first+i+1] |= rest
		}
	}
}

// words returns the bits, also of counts that have none.
func (c counts) words() []uint64 {
	if c.bits != nil {
		return c.bits
	}
	words := make([]uint64, wordsFor(c.span))
	for i := range words {
		words[i] = ^uint64(0)
	}
	words[len(words)-1] >>= len(words)*wordBits - length(c.span)
	return words
}

func length(x api.Span) int { return x.Hi - x.Lo + 1 }

func wordsFor(x api.Span) int { return (length(x) + wordBits - 1) / wordBits }

// touch reports whether no number lies between two spans.
func touch(x, y api.Span) bool { return x.Lo <= y.Hi+1 && y.Lo <= x.Hi+1 }
