package truth

import (
	"iter"
	"slices"

	"millrind/api"
)

// lead is how much lead each pocket has.
type lead [api.MaxPockets]int

func (l lead) sum() int {
	sum := 0
	for _, n := range l {
		sum += n
	}
	return sum
}

// box is all leads between a lower and an upper end for each pocket.
type box [api.MaxPockets]api.Span

// lowest returns the first lead of a box, which has its least sum.
func (b box) lowest() lead {
	var l lead
	for i, x := range b {
		l[i] = x.Lo
	}
	return l
}

// highest returns the last lead of a box, which has its greatest sum.
func (b box) highest() lead {
	var l lead
	for i, x := range b {
		l[i] = x.Hi
	}
	return l
}

// isRich reports whether a box has more than MaxTree leads.
func (b box) isRich() bool {
	leads := 1
	for _, x := range b {
		leads *= x.Hi - x.Lo + 1
		if leads > api.MaxTree {
			return true
		}
	}
	return false
}

// leads yields the leads of a box, in order.
func (b box) leads() iter.Seq[lead] {
	return func(yield func(lead) bool) {
		l, more := b.lowest(), true
		for more && yield(l) {
			l, more = b.next(l)
		}
	}
}

// next returns the lead behind another one, and false if that is the last one.
func (b box) next(l lead) (lead, bool) {
	for i, x := range slices.Backward(b[:]) {
		if l[i] < x.Hi {
			l[i]++
			return l, true
		}
		l[i] = x.Lo
	}
	return lead{}, false
}

// split cuts a box behind a number of a pocket, and reports whether this leaves leads on both sides.
func (b box) split(pocket, at int) (low, high box, is bool) {
	at = min(max(at, b[pocket].Lo-1), b[pocket].Hi)
	low, high = b, b
	low[pocket].Hi, high[pocket].Lo = at, at+1
	return low, high, low != b && high != b
}
