package gears

import (
	"cmp"

	"millrind/api"
)

// ValidRatio reports whether a ratio is valid.
func ValidRatio(r api.Ratio) bool {
	return isFromTo(r.Num, 0, api.MaxHeight) && isFromTo(r.Den, 1, api.MaxHeight) && gcd(r.Num, r.Den) == 1
}

// Reduce returns a fraction in lowest terms.
func Reduce(num, den int) (api.Ratio, api.Errno) {
	if num < 0 || den < 1 {
		return api.Ratio{}, api.ErrArg
	}
	return product(fraction{num, den})
}

// Times returns the product of two ratios.
func Times(a, b api.Ratio) (api.Ratio, api.Errno) {
	if !ValidRatio(a) || !ValidRatio(b) {
		return api.Ratio{}, api.ErrRatio
	}
	return product(fraction(a), fraction(b))
}

// Plus returns the sum of two ratios.
func Plus(a, b api.Ratio) (api.Ratio, api.Errno) {
	if !ValidRatio(a) || !ValidRatio(b) {
		return api.Ratio{}, api.ErrRatio
	}
	return Reduce(a.Num*b.Den+b.Num*a.Den, a.Den*b.Den)
}

// Compare compares two ratios.
func Compare(a, b api.Ratio) (int, api.Errno) {
	if !ValidRatio(a) || !ValidRatio(b) {
		return 0, api.ErrRatio
	}
	return cmp.Compare(a.Num*b.Den, b.Num*a.Den), api.OK
}
