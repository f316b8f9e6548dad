package dressing_test

import (
	"reflect"
	"slices"
	"testing"

	"millrind/api"
	"millrind/dressing"
)

// call returns whether the results of a function besides the error are zero values.
type call func() (zero bool, e api.Errno)

func one[T any](x T, e api.Errno) (bool, api.Errno) {
	v := reflect.ValueOf(x)
	return v.IsZero() || v.Kind() == reflect.Slice && v.Len() == 0, e
}

// taskCalls are the functions of a task.
func taskCalls(x api.Task, plan []int, p api.Prices) map[string]call {
	return map[string]call{
		"Check":       func() (bool, api.Errno) { return true, dressing.Check(x) },
		"Covers":      func() (bool, api.Errno) { return one(dressing.Covers(x, plan)) },
		"Does":        func() (bool, api.Errno) { return true, dressing.Does(x, plan) },
		"Fewest":      func() (bool, api.Errno) { return one(dressing.Fewest(x)) },
		"Plan":        func() (bool, api.Errno) { return one(dressing.Plan(x)) },
		"CheckPrices": func() (bool, api.Errno) { return one(dressing.CheckPrices(x, p)) },
		"Never":       func() (bool, api.Errno) { return one(dressing.Never(x)) },
		"CheckNever":  func() (bool, api.Errno) { return true, dressing.CheckNever(x, p) },
		"Prove": func() (bool, api.Errno) {
			q, n, e := dressing.Prove(x)
			return reflect.ValueOf(q).IsZero() && n == 0, e
		},
	}
}

// crewCalls are the functions of a crew and loads.
func crewCalls(c api.Crew, loads []int, shifts int, work [][]int, lines []int) map[string]call {
	return map[string]call{
		"Shifts":    func() (bool, api.Errno) { return one(dressing.Shifts(c, loads)) },
		"Work":      func() (bool, api.Errno) { return one(dressing.Work(c, loads)) },
		"Cut":       func() (bool, api.Errno) { return one(dressing.Cut(c, loads)) },
		"Days":      func() (bool, api.Errno) { return one(dressing.Days(c, loads)) },
		"CheckWork": func() (bool, api.Errno) { return true, dressing.CheckWork(c, loads, shifts, work) },
		"CheckCut":  func() (bool, api.Errno) { return one(dressing.CheckCut(c, loads, lines)) },
	}
}

// wantErrors checks that all functions return an error (others their own), with zero values.
func wantErrors(t *testing.T, what string, calls map[string]call, want api.Errno, others map[string]api.Errno) {
	t.Helper()
	for name, f := range calls {
		expected := want
		if e, is := others[name]; is {
			expected = e
		}
		zero, e := f()
		wantError(t, what+": "+name, e, expected)
		if e != api.OK && !zero {
			t.Errorf("%s: %s has results with an error", what, name)
		}
	}
}

// P5.1, D1, Errors: all functions of tasks return ErrTask if it is not valid, whatever else is wrong.
func TestTaskErrors(t *testing.T) {
	for _, x := range []struct {
		what string
		task api.Task
	}{
		{"no cells", api.Task{Wide: 1}},
		{"no cells and no width", api.Task{}},
		{"no width", task(0, 1, 1)},
		{"a width below 0", task(-1, 1, 1)},
		{"too wide", task(3, 1, 1, 1, 1)},
		{"too many cells", api.Task{Wide: 1, Need: make([]api.Span, 401)}},
		{"an empty span", task(1, 1, 1, 2, 1)},
		{"a need below 0", task(1, -1, 1)},
		{"a need too great", task(1, 1, 100001)},
		{"great numbers", task(1<<62, -1<<63, 1<<63-1)},
	} {
		wantErrors(t, x.what, taskCalls(x.task, []int{-1, 0, 0}, api.Prices{Low: []int{-1}}), api.ErrTask, nil)
	}
	for _, x := range []api.Task{task(1, 0, 0), task(2, 0, 100000, 100000, 100000), {Wide: 400, Need: make([]api.Span, 400)}, {Wide: 1, Need: make([]api.Span, 400)}} {
		wantError(t, "Check", dressing.Check(x), api.OK)
	}
}

// P5.1, P5.3, Errors: in valid tasks wrong plans and prices are ErrPlan and ErrPrices; what no plan does is ErrStroke, and ErrNone what one does.
func TestPlanErrors(t *testing.T) {
	own := map[string]api.Errno{
		"Check": api.OK, "Covers": api.ErrPlan, "Does": api.ErrPlan, "CheckPrices": api.ErrPrices, "CheckNever": api.ErrPrices, "Never": api.OK,
	}
	wantErrors(t, "a task that no plan does", taskCalls(hopeless(), nil, api.Prices{}), api.ErrStroke, own)
	own["Never"] = api.ErrNone
	wantErrors(t, "a task that a plan does", taskCalls(example(), []int{1, 0, 2, 0}, api.Prices{}), api.OK, own)
}

// P5.1, D13, Errors: crews that are not valid, and ErrCrew for all functions of them, whatever else is wrong.
func TestCrewErrors(t *testing.T) {
	all := make([]int, 64)
	for k := range all {
		all[k] = k
	}
	for _, x := range []struct {
		what string
		crew api.Crew
	}{
		{"too many dressers", api.Crew{Caps: slices.Repeat([]int{1}, 17), Reach: make([][]int, 17)}},
		{"too few lists", api.Crew{Caps: []int{1, 1}, Reach: [][]int{{0}}}},
		{"too many lists", api.Crew{Caps: []int{1}, Reach: [][]int{{0}, {1}}}},
		{"lists without dressers", api.Crew{Reach: [][]int{nil}}},
		{"no strokes", api.Crew{Caps: []int{1, 0}, Reach: [][]int{{0}, {1}}}},
		{"too many strokes", api.Crew{Caps: []int{100001}, Reach: [][]int{{0}}}},
		{"a line twice", api.Crew{Caps: []int{1, 1}, Reach: [][]int{{0}, {1, 1}}}},
		{"lines in another order", api.Crew{Caps: []int{1}, Reach: [][]int{{1, 0}}}},
		{"a line below 0", api.Crew{Caps: []int{1}, Reach: [][]int{{-1, 0}}}},
		{"a line too high", api.Crew{Caps: []int{1}, Reach: [][]int{{0, 64}}}},
	} {
		want(t, x.what, dressing.ValidCrew(x.crew), false)
		wantErrors(t, x.what, crewCalls(x.crew, []int{-1}, -1, [][]int{{-1}}, []int{5, 3}), api.ErrCrew, nil)
	}
	for _, c := range []api.Crew{{}, pair(), {Caps: []int{1}, Reach: [][]int{nil}}, {Caps: []int{100000}, Reach: [][]int{all}}, {Caps: slices.Repeat([]int{1}, 16), Reach: make([][]int, 16)}} {
		want(t, "ValidCrew", dressing.ValidCrew(c), true)
	}
}

// P5.1, Errors: loads that are none are ErrArg, also where lines are not reached and work is none; so are fewer shifts than 0 and lines that are none.
func TestLoadErrors(t *testing.T) {
	for _, loads := range [][]int{make([]int, 65), {0, 0, -1}, {9, 4, 40000001}, {1<<63 - 1, 1<<63 - 1}, {-1 << 63}} {
		wantErrors(t, "loads that are none", crewCalls(pair(), loads, 1, nil, nil), api.ErrArg, nil)
		wantErrors(t, "loads that are none", crewCalls(api.Crew{}, loads, 1, nil, nil), api.ErrArg, nil)
	}
	own := map[string]api.Errno{"CheckWork": api.ErrArg, "CheckCut": api.ErrArg}
	wantErrors(t, "shifts and lines that are none", crewCalls(pair(), []int{9, 4}, -1, nil, []int{2}), api.OK, own)
	wantErrors(t, "shifts and lines that are none, beyond reach", crewCalls(pair(), []int{9, 4, 1}, -1<<63, nil, []int{2, 2}), api.ErrReach, own)
	own = map[string]api.Errno{"CheckWork": api.ErrPlan}
	wantErrors(t, "a line beyond reach", crewCalls(pair(), []int{9, 4, 1}, 0, nil, []int{2}), api.ErrReach, own)
	wantErrors(t, "nobody", crewCalls(api.Crew{}, []int{0, 1}, 0, nil, []int{1}), api.ErrReach, own)
	most := make([]int, 64)
	most[1] = 40000000
	n, e := dressing.Shifts(pair(), most)
	wantError(t, "Shifts of 64 lines", e, api.OK)
	want(t, "Shifts of 64 lines", n, 5000000)
}

// P5.1, D19, R2: ErrReach comes ahead of ErrLimit.
func TestDaysErrors(t *testing.T) {
	c := api.Crew{Caps: []int{1}, Reach: [][]int{{0}}}
	for _, x := range []struct {
		loads []int
		want  api.Errno
	}{{[]int{400}, api.OK}, {[]int{401}, api.ErrLimit}, {[]int{401, 1}, api.ErrReach}} {
		days, e := dressing.Days(c, x.loads)
		wantError(t, "Days", e, x.want)
		if e != api.OK {
			want(t, "the days with an error", len(days), 0)
		}
	}
}

// R7: arguments are not changed, results are new memory each time, and no two lists of a result share any.
func TestArgumentsAreKept(t *testing.T) {
	x, plan, p := example(), []int{1, 0, 2}, api.Prices{Low: []int{1, 0, 1, 0}, High: []int{0, 0, 0, 0}}
	c, loads, work, lines := pair(), []int{9, 4}, [][]int{{9, 0}, {0, 4}}, []int{0, 1}
	calls := taskCalls(x, plan, p)
	for name, f := range crewCalls(c, loads, 2, work, lines) {
		calls[name] = f
	}
	for range 2 {
		for _, f := range calls {
			f()
		}
	}
	dressing.Total(plan)
	same := reflect.DeepEqual(x, example()) && reflect.DeepEqual(c, pair()) && reflect.DeepEqual(work, [][]int{{9, 0}, {0, 4}})
	same = same && slices.Equal(plan, []int{1, 0, 2}) && slices.Equal(p.Low, []int{1, 0, 1, 0}) && slices.Equal(loads, []int{9, 4}) && slices.Equal(lines, []int{0, 1})
	want(t, "arguments are kept", same, true)
	days := must[[][][]int](t, "Days")(dressing.Days(c, loads))
	for _, day := range days {
		for i := range day {
			clear(day[i])
			day[i] = append(day[i][:0], 7, 7)
		}
	}
	again := must[[][][]int](t, "Days")(dressing.Days(c, loads))
	checkDays(t, c, loads, 2, again)
	a := must[[][]int](t, "Work")(dressing.Work(c, loads))
	a[0] = append(a[0][:0], 7, 7, 7)
	wantLists(t, "a list beside one that was changed", a[1:], must[[][]int](t, "Work")(dressing.Work(c, loads))[1:])
}
