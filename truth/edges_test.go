package truth_test

import (
	"math/rand"
	"testing"

	"millrind/truth"
)

// P6.1, T18: the example of the chapter.
func TestExampleEdge(t *testing.T) {
	wantList(t, "Red", must[[]bool](t, "Red")(truth.Red([]int{5, 9, 8, 2}, []int{0, 1, 2}, 1)), []bool{false, true, true})
}

// P6.1, T18: cells come in any order, and those that the edge does not lie over do not count.
func TestEdges(t *testing.T) {
	heights := []int{5, 9, 8, 2, -1000000000, 1000000000}
	for _, x := range []struct {
		cells []int
		tol   int
		red   []bool
	}{
		{[]int{3}, 0, []bool{true}},
		{[]int{4}, 0, []bool{true}},
		{[]int{2, 0, 1}, 1, []bool{true, false, true}},
		{[]int{2, 0, 1}, 0, []bool{false, false, true}},
		{[]int{2, 0, 1}, 3, []bool{true, false, true}},
		{[]int{2, 0, 1}, 4, []bool{true, true, true}},
		{[]int{3, 0}, 2, []bool{false, true}},
		{[]int{3, 0}, 3, []bool{true, true}},
		{[]int{0, 3, 4}, 1000000000, []bool{true, true, false}},
		{[]int{4, 5}, 1000000000, []bool{false, true}},
		{[]int{5, 4, 3, 2, 1, 0}, 0, []bool{true, false, false, false, false, false}},
	} {
		wantList(t, "Red", must[[]bool](t, "Red")(truth.Red(heights, x.cells, x.tol)), x.red)
	}
}

// P6.7: a cell of the greatest height is red; with a greater tol no fewer cells are; each red cell is higher than each other one, and no two red ones are farther apart than tol.
func TestRedCells(t *testing.T) {
	for seed := range 500 {
		rng := rand.New(rand.NewSource(int64(seed)))
		heights := make([]int, 1+rng.Intn(8))
		for i := range heights {
			heights[i] = around(rng, 6)
		}
		cells := rng.Perm(len(heights))[:1+rng.Intn(len(heights))]
		tol := rng.Intn(6)
		red := must[[]bool](t, "Red")(truth.Red(heights, cells, tol))
		more := must[[]bool](t, "Red")(truth.Red(heights, cells, tol+rng.Intn(3)))
		highest := heights[cells[0]]
		for _, c := range cells {
			highest = max(highest, heights[c])
		}
		for i, c := range cells {
			want(t, "Red", red[i], heights[c] >= highest-tol)
			want(t, "a red cell of the greatest height", red[i] || heights[c] < highest, true)
			want(t, "a cell that is red with a greater tol", more[i] || !red[i], true)
			for j, d := range cells {
				apart := heights[c] - heights[d]
				want(t, "two red cells", !red[i] || !red[j] || apart <= tol, true)
				want(t, "a red cell above another one", !red[i] || red[j] || apart > 0, true)
			}
		}
	}
}
