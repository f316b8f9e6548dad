package truth

import (
	"iter"
	"slices"

	"millrind/api"
)

// Least returns the least sum of lead that balances it.
func Least(s api.Stone) (int, api.Errno) {
	l, e := leastLead(s)
	return l.sum(), e
}

// Lead returns the first lead with the least sum.
func Lead(s api.Stone) ([]int, api.Errno) {
	l, e := leastLead(s)
	if e != api.OK {
		return nil, e
	}
	return slices.Clone(l[:len(s.Pockets)]), api.OK
}

// Count returns how many leads balance it.
func Count(s api.Stone) (int, api.Errno) {
	r, e := fewLeads(s)
	if e != api.OK {
		return 0, e
	}
	n := 0
	for range r.balancing() {
		n++
	}
	return n, api.OK
}

// fewLeads returns the rotor of a stone; ErrLimit, if the stone is rich.
func fewLeads(s api.Stone) (rotor, api.Errno) {
	r, e := rotorOf(s)
	if e == api.OK && r.room.isRich() {
		return rotor{}, api.ErrLimit
	}
	return r, e
}

// leastLead returns the first balancing lead with the least sum; ErrBalance, if there is none.
func leastLead(s api.Stone) (lead, api.Errno) {
	r, e := fewLeads(s)
	if e != api.OK {
		return lead{}, e
	}
	l, is := least(r.balancing(), lead.sum)
	if !is {
		return lead{}, api.ErrBalance
	}
	return l, api.OK
}

// balancing yields the leads that balance a rotor, in order.
func (r rotor) balancing() iter.Seq[lead] { return still(r.room.leads(), r.moment, r.tol) }

// still yields the leads whose moment is within a number.
func still(leads iter.Seq[lead], moment func(lead) point, tol int) iter.Seq[lead] {
	return func(yield func(lead) bool) {
		for l := range leads {
			if moment(l).isWithin(tol) && !yield(l) {
				return
			}
		}
	}
}

// least returns the first of the elements whose number is the least one, and false if there are no elements.
func least[T any](list iter.Seq[T], number func(T) int) (first T, is bool) {
	for x := range list {
		if !is || number(x) < number(first) {
			first, is = x, true
		}
	}
	return first, is
}
