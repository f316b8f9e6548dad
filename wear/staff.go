package wear

import (
	"slices"

	"millrind/api"
)

// Staff returns the readings of a straight edge.
func Staff(slice int, cells []int, red []bool, tol int) ([]api.Reading, api.Errno) {
	if slice < 0 || tol < 0 || tol > api.MaxHeight || !areDifferent(cells) || len(red) != len(cells) || !slices.Contains(red, true) {
		return nil, api.ErrArg
	}
	var high, low []int
	for i, cell := range cells {
		if red[i] {
			high = append(high, cell)
		} else {
			low = append(low, cell)
		}
	}
	if len(high)*(len(high)-1)/2+len(high)*len(low) > api.MaxReadings {
		return nil, api.ErrLimit
	}
	var l []api.Reading
	for i, x := range high {
		for _, y := range high[i+1:] {
			l = append(l, api.Reading{Slice: slice, A: x, B: y, Diff: api.Span{Lo: -tol, Hi: tol}})
		}
	}
	for _, y := range low {
		for _, x := range high {
			l = append(l, api.Reading{Slice: slice, A: x, B: y, Diff: api.Span{Lo: 1, Hi: maxDiff}})
		}
	}
	return l, api.OK
}

// areDifferent reports whether cells are different numbers that are at least 0.
func areDifferent(cells []int) bool {
	l := slices.Sorted(slices.Values(cells))
	return len(l) == 0 || l[0] >= 0 && len(slices.Compact(l)) == len(cells)
}
