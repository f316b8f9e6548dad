package gears

import (
	"slices"

	"millrind/api"
)

// fraction is a fraction that need not be in lowest terms: Num is at least 0, Den at least 1.
type fraction api.Ratio

// product returns the product of fractions in lowest terms; ErrLimit, if these are too large. Everything is cancelled before anything is multiplied, so that no part of the product can be too large.
func product(factors ...fraction) (api.Ratio, api.Errno) {
	nums, dens := make([]int, len(factors)), make([]int, len(factors))
	for i, f := range factors {
		nums[i], dens[i] = f.Num, f.Den
	}
	for i := range nums {
		for j := range dens {
			d := gcd(nums[i], dens[j])
			nums[i] /= d
			dens[j] /= d
		}
	}
	num, isNum := multiply(nums)
	den, isDen := multiply(dens)
	if !isNum || !isDen {
		return api.Ratio{}, api.ErrLimit
	}
	return api.Ratio{Num: num, Den: den}, api.OK
}

// multiply returns the product of numbers of at least 0, and false if it is greater than MaxHeight.
func multiply(numbers []int) (int, bool) {
	if slices.Contains(numbers, 0) {
		return 0, true
	}
	p := 1
	for _, n := range numbers {
		if n > api.MaxHeight/p {
			return 0, false
		}
		p *= n
	}
	return p, true
}

type integer interface {
	~int | ~int8 | ~int16 | ~int32 | ~int64 | ~uint | ~uint8 | ~uint16 | ~uint32 | ~uint64 | ~uintptr
}

// gcd returns the greatest common divisor of two numbers of at least 0, one of which is greater.
func gcd[T integer](a, b T) T {
	for b != 0 {
		a, b = b, a%b
	}
	return a
}
