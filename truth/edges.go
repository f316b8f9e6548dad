package truth

import "millrind/api"

// Red returns which cells a straight edge reddens.
func Red(heights, cells []int, tol int) ([]bool, api.Errno) {
	if !allFromTo(heights, -api.MaxHeight, api.MaxHeight) || !areDifferent(cells, len(heights)) || len(cells) == 0 || !isFromTo(tol, 0, api.MaxHeight) {
		return nil, api.ErrArg
	}
	highest := heights[cells[0]]
	for _, cell := range cells {
		highest = max(highest, heights[cell])
	}
	red := make([]bool, len(cells))
	for i, cell := range cells {
		red[i] = heights[cell] >= highest-tol
	}
	return red, api.OK
}

// areDifferent reports whether cells are different indices below n.
func areDifferent(cells []int, n int) bool {
	seen := make([]bool, n)
	for _, cell := range cells {
		if !isFromTo(cell, 0, n-1) || seen[cell] {
			return false
		}
		seen[cell] = true
	}
	return true
}
