package wear_test

import (
	"math"
	"slices"
	"testing"

	"millrind/api"
	"millrind/wear"
)

func reading(slice, a, b, lo, hi int) api.Reading {
	return api.Reading{Slice: slice, A: a, B: b, Diff: api.Span{Lo: lo, Hi: hi}}
}

// P4.1, W22: the example of the chapter, several cells of each kind in the order of the cells, and cells that are all red.
func TestStaff(t *testing.T) {
	for _, x := range []struct {
		what  string
		cells []int
		red   []bool
		want  []api.Reading
	}{
		{"the example", []int{3, 5, 7}, []bool{true, false, true}, []api.Reading{reading(1, 3, 7, -2, 2), reading(1, 3, 5, 1, 1<<40), reading(1, 7, 5, 1, 1<<40)}},
		{"one red cell", []int{0}, []bool{true}, nil},
		{"falling cells", []int{9, 8, 7, 6, 5}, []bool{false, true, true, false, true}, []api.Reading{
			reading(1, 8, 7, -2, 2), reading(1, 8, 5, -2, 2), reading(1, 7, 5, -2, 2),
			reading(1, 8, 9, 1, 1<<40), reading(1, 7, 9, 1, 1<<40), reading(1, 5, 9, 1, 1<<40),
			reading(1, 8, 6, 1, 1<<40), reading(1, 7, 6, 1, 1<<40), reading(1, 5, 6, 1, 1<<40),
		}},
	} {
		if l := must[[]api.Reading](t, x.what)(wear.Staff(1, x.cells, x.red, 2)); !slices.Equal(l, x.want) {
			t.Errorf("%s: %v, want %v", x.what, l, x.want)
		}
	}
}

// counted are cells and which are red, as many as told.
func counted(red, others int) ([]int, []bool) {
	var cells []int
	for i := range red + others {
		cells = append(cells, i)
	}
	return cells, append(slices.Repeat([]bool{true}, red), make([]bool, others)...)
}

// P4.1, W22: what may not be is ErrArg, ahead of ErrLimit for more than 200 readings.
func TestStaffErrors(t *testing.T) {
	many, manyRed := counted(1, 201)
	for _, x := range []struct {
		what  string
		slice int
		cells []int
		red   []bool
		tol   int
		want  api.Errno
	}{
		{"the least numbers", 0, []int{0, 1}, []bool{true, true}, 0, api.OK},
		{"the greatest tolerance and a late slice", math.MaxInt, []int{math.MaxInt, 1}, []bool{true, true}, 1000000000, api.OK},
		{"a negative slice", -1, []int{0, 1}, []bool{true, true}, 0, api.ErrArg},
		{"a negative tolerance", 0, []int{0, 1}, []bool{true, true}, -1, api.ErrArg},
		{"too great a tolerance", 0, []int{0, 1}, []bool{true, true}, 1000000001, api.ErrArg},
		{"a cell twice", 0, []int{2, 1, 2}, []bool{true, true, false}, 0, api.ErrArg},
		{"the ground", 0, []int{1, -1}, []bool{true, false}, 0, api.ErrArg},
		{"too few colours", 0, []int{0, 1}, []bool{true}, 0, api.ErrArg},
		{"too many colours", 0, []int{0, 1}, []bool{true, false, true}, 0, api.ErrArg},
		{"nothing red", 0, []int{0, 1}, []bool{false, false}, 0, api.ErrArg},
		{"no cells", 0, nil, nil, 0, api.ErrArg},
		{"too many readings", 0, many, manyRed, 0, api.ErrLimit},
		{"too many readings and a negative slice", -1, many, manyRed, 0, api.ErrArg},
	} {
		l, e := wear.Staff(x.slice, x.cells, x.red, x.tol)
		if wantError(t, x.what, e, x.want); e != api.OK && len(l) > 0 {
			t.Errorf("%s: %v", x.what, l)
		}
	}
	for _, x := range []struct {
		red, others int
		want        api.Errno
	}{{20, 0, api.OK}, {21, 0, api.ErrLimit}, {1, 200, api.OK}, {1, 201, api.ErrLimit}, {16, 5, api.OK}, {16, 6, api.ErrLimit}, {100000, 100000, api.ErrLimit}} {
		cells, red := counted(x.red, x.others)
		l, e := wear.Staff(3, cells, red, 5)
		if wantError(t, "Staff", e, x.want); e == api.OK && len(l) != x.red*(x.red-1)/2+x.red*x.others {
			t.Errorf("%d red cells and %d others: %d readings", x.red, x.others, len(l))
		}
	}
}

// P4.9: in heights that agree with what Staff tells, each red cell is higher than each other one, and red ones differ by the tolerance at most.
func TestRedIsHigher(t *testing.T) {
	s := api.Story{Start: []api.Span{{Lo: 0, Hi: 3}, {Lo: 1, Hi: 4}, {Lo: 0, Hi: 4}, {Lo: 2, Hi: 3}}}
	cells, red := []int{2, 0, 3, 1}, []bool{true, false, true, false}
	s.Readings = must[[]api.Reading](t, "Staff")(wear.Staff(0, cells, red, 1))
	n := 0
	for h := range everyHeights(api.Story{Start: s.Start}, nil) {
		a := h[0]
		agrees := a[2] > a[0] && a[2] > a[1] && a[3] > a[0] && a[3] > a[1] && a[2]-a[3] <= 1 && a[3]-a[2] <= 1
		if agrees {
			n++
		}
		if is := must[bool](t, "Keeps")(wear.Keeps(s, nil, h)); is != agrees {
			t.Errorf("the heights %v: Keeps is %v", a, is)
		}
	}
	if n == 0 {
		t.Error("no heights agree")
	}
}
