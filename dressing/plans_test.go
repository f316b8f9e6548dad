package dressing_test

import (
	"math/rand"
	"slices"
	"testing"

	"millrind/api"
	"millrind/dressing"
)

// P5.1, D2 to D6: the examples of the chapter.
func TestExamplePlans(t *testing.T) {
	x := example()
	wantInts(t, "Covers", must[[]int](t, "Covers")(dressing.Covers(x, []int{1, 0, 2})), []int{1, 1, 2, 2})
	wantError(t, "Does", dressing.Does(x, []int{1, 0, 2}), api.OK)
	wantError(t, "Does of a plan that does not", dressing.Does(x, []int{0, 1, 1}), api.ErrPlan)
	want(t, "Fewest", must[int](t, "Fewest")(dressing.Fewest(x)), 3)
	wantInts(t, "Plan", must[[]int](t, "Plan")(dressing.Plan(x)), []int{1, 0, 2})
	_, e := dressing.Fewest(hopeless())
	wantError(t, "Fewest of a task that no plan does", e, api.ErrStroke)
}

// P5.1, D4, D5: tasks of one cell, strokes over one cell or over all, and needs of nothing.
func TestPlansOfFewCells(t *testing.T) {
	for _, x := range []struct {
		what string
		task api.Task
		plan []int
	}{
		{"one cell", task(1, 3, 5), []int{3}},
		{"one cell that needs nothing", task(1, 0, 0), []int{0}},
		{"strokes over one cell", task(1, 3, 5, 0, 2, 1, 1), []int{3, 0, 1}},
		{"strokes over all cells", task(3, 0, 9, 4, 9, 2, 5), []int{4}},
		{"strokes over all cells, just so", task(3, 4, 9, 0, 9, 2, 4), []int{4}},
		{"the first plan puts strokes behind", task(2, 0, 9, 3, 9, 0, 9), []int{0, 3}},
		{"unless that is too many", task(2, 0, 9, 3, 9, 0, 1), []int{2, 1}},
		{"cells that no stroke covers together", task(2, 0, 9, 1, 9, 0, 9, 1, 9), []int{0, 1, 1}},
		{"as many as may be", task(1, 100000, 100000), []int{100000}},
	} {
		got := must[[]int](t, x.what)(dressing.Plan(x.task))
		wantInts(t, x.what, got, x.plan)
		want(t, x.what, must[int](t, x.what)(dressing.Fewest(x.task)), total(x.plan))
	}
	for _, x := range []api.Task{task(3, 4, 9, 0, 3, 2, 4), task(2, 0, 1, 3, 9, 0, 1), task(2, 2, 2, 0, 1)} {
		_, e := dressing.Plan(x)
		wantError(t, "Plan of a task that no plan does", e, api.ErrStroke)
		_, e = dressing.Fewest(x)
		wantError(t, "Fewest of a task that no plan does", e, api.ErrStroke)
	}
}

// P5.1, P5.2, P0.5, D4, D5: of all plans that do a small task, Plan is the first one of those with the fewest strokes; where none does, both are ErrStroke.
func TestPlansOfSmallTasks(t *testing.T) {
	eachTask(t, 3000, func(x api.Task, plans [][]int) {
		n, e := dressing.Fewest(x)
		plan, f := dressing.Plan(x)
		if len(plans) == 0 {
			wantError(t, "Fewest", e, api.ErrStroke)
			wantError(t, "Plan", f, api.ErrStroke)
			return
		}
		best := firstFewest(plans)
		wantError(t, "Fewest", e, api.OK)
		wantError(t, "Plan", f, api.OK)
		want(t, "Fewest", n, total(best))
		wantInts(t, "Plan", plan, best)
		wantError(t, "Does of Plan", dressing.Does(x, plan), api.OK)
		want(t, "Total of Plan", must[int](t, "Total")(dressing.Total(plan)), n)
	})
}

// farthest is how high each point of a plan is at least above each other one, for a task whose plans have at most so many strokes and begin with some numbers; false if there is no such plan.
func farthest(x api.Task, fewest int, begin []int) ([][]int, bool) {
	m := len(x.Need) - x.Wide + 1
	d := make([][]int, m+1)
	for a := range d {
		d[a] = slices.Repeat([]int{-1 << 40}, m+1)
		d[a][a] = 0
	}
	atLeast := func(a, b, n int) { d[a][b] = max(d[a][b], n) }
	atLeast(m, 0, -fewest)
	for k := range m {
		atLeast(k, k+1, 0)
	}
	for k, n := range begin {
		atLeast(k, k+1, n)
		atLeast(k+1, k, -n)
	}
	for i, s := range x.Need {
		a, b := max(0, i-x.Wide+1), min(i, m-1)+1
		atLeast(a, b, s.Lo)
		atLeast(b, a, -s.Hi)
	}
	for k := range d {
		for a := range d {
			for b := range d {
				atLeast(a, b, d[a][k]+d[k][b])
			}
		}
	}
	for a := range d {
		if d[a][a] > 0 {
			return nil, false
		}
	}
	return d, true
}

// P5.2: in larger tasks no plan has fewer strokes than Fewest, and none with as many has a smaller number at an index, with the same ones ahead of it.
func TestPlanIsFirst(t *testing.T) {
	done := 0
	for _, x := range largerTasks(60, 14, 40) {
		plan, e := dressing.Plan(x)
		if e != api.OK {
			if _, is := farthest(x, 1<<30, nil); is {
				t.Errorf("a plan does %+v", x)
			}
			continue
		}
		done++
		n := total(plan)
		if !modelDoes(x, plan) {
			t.Errorf("%v does not %+v", plan, x)
		}
		if _, is := farthest(x, n-1, nil); is {
			t.Errorf("a plan has fewer strokes than %v for %+v", plan, x)
		}
		for k := range plan {
			d, is := farthest(x, n, plan[:k])
			if !is || d[k][k+1] != plan[k] {
				t.Errorf("%v is not the first plan for %+v: see index %d", plan, x, k)
			}
		}
	}
	if done < 20 {
		t.Errorf("only %d tasks can be done", done)
	}
}

// P5.1, D2, D3: each plan covers the cells as strokes counted one by one do, and does a task if these are within its needs.
func TestCoversAndDoes(t *testing.T) {
	rng := rand.New(rand.NewSource(2))
	does := 0
	for _, x := range smallTasks(500) {
		for range 10 {
			plan := make([]int, len(x.Need)-x.Wide+1)
			for k := range plan {
				plan[k] = rng.Intn(3)
			}
			wantInts(t, "Covers", must[[]int](t, "Covers")(dressing.Covers(x, plan)), modelCovers(x.Wide, len(x.Need), plan))
			expected := api.ErrPlan
			if modelDoes(x, plan) {
				expected = api.OK
				does++
			}
			wantError(t, "Does", dressing.Does(x, plan), expected)
		}
		if t.Failed() {
			t.Fatalf("the task is %+v", x)
		}
	}
	if does < 100 {
		t.Errorf("only %d plans do their tasks", does)
	}
}

// P5.1, D2, D3, D6: lists of another length or with numbers that may not be are no plans; the last ones that may be are.
func TestNoPlans(t *testing.T) {
	x := task(2, 0, 100000, 0, 100000, 0, 100000)
	for _, plan := range [][]int{nil, {0}, {0, 0, 0}, {-1, 0}, {0, -1}, {100001, 0}, {0, 100001}, {-1 << 63, 1 << 62}} {
		l, e := dressing.Covers(x, plan)
		wantError(t, "Covers", e, api.ErrPlan)
		wantInts(t, "Covers", l, nil)
		wantError(t, "Does", dressing.Does(x, plan), api.ErrPlan)
	}
	wantInts(t, "Covers", must[[]int](t, "Covers")(dressing.Covers(x, []int{100000, 100000})), []int{100000, 200000, 100000})
	wantError(t, "Does", dressing.Does(x, []int{100000, 100000}), api.ErrPlan)
	wantError(t, "Does", dressing.Does(x, []int{100000, 0}), api.OK)
}

// P5.1, D6: Total adds up to 400 numbers from 0 to 100000.
func TestTotal(t *testing.T) {
	for _, x := range []struct {
		plan []int
		want int
	}{{nil, 0}, {[]int{7}, 7}, {[]int{2, 0, 1}, 3}, {slices.Repeat([]int{100000}, 400), 40000000}} {
		want(t, "Total", must[int](t, "Total")(dressing.Total(x.plan)), x.want)
	}
	for _, plan := range [][]int{make([]int, 401), {-1}, {3, -1, 3}, {100001}, {1, 100001}, {1 << 62, 1 << 62, 1 << 62}} {
		n, e := dressing.Total(plan)
		wantError(t, "Total", e, api.ErrPlan)
		want(t, "Total with an error", n, 0)
	}
}

// P5.4: covers are Wide times the strokes together, and plans add.
func TestCoversAdd(t *testing.T) {
	rng := rand.New(rand.NewSource(4))
	for _, x := range largerTasks(200, 30, 9) {
		m := len(x.Need) - x.Wide + 1
		p, q, both := make([]int, m), make([]int, m), make([]int, m)
		for k := range both {
			p[k], q[k] = rng.Intn(50001), rng.Intn(50001)
			both[k] = p[k] + q[k]
		}
		cover := func(plan []int) []int { return must[[]int](t, "Covers")(dressing.Covers(x, plan)) }
		a, b, sum := cover(p), cover(q), cover(both)
		for i := range sum {
			want(t, "the covers of a sum", sum[i], a[i]+b[i])
		}
		want(t, "the sum of covers", total(sum), x.Wide*must[int](t, "Total")(dressing.Total(both)))
	}
}

// P5.5: with wider spans Fewest does not increase, and a plan that did the task still does it; needs of nothing take no strokes.
func TestMoreRoom(t *testing.T) {
	rng := rand.New(rand.NewSource(6))
	done, fewer := 0, 0
	for _, x := range largerTasks(400, 20, 9) {
		plan, e := dressing.Plan(x)
		if e != api.OK {
			continue
		}
		done++
		wider := api.Task{Wide: x.Wide}
		for _, s := range x.Need {
			wider.Need = append(wider.Need, api.Span{Lo: max(0, s.Lo-rng.Intn(3)), Hi: s.Hi + rng.Intn(3)})
		}
		n := must[int](t, "Fewest")(dressing.Fewest(wider))
		if n > total(plan) {
			t.Errorf("%d strokes in place of %d", n, total(plan))
		}
		if n < total(plan) {
			fewer++
		}
		wantError(t, "Does", dressing.Does(wider, plan), api.OK)
		zero := api.Task{Wide: x.Wide, Need: make([]api.Span, len(x.Need))}
		want(t, "Fewest of nothing", must[int](t, "Fewest")(dressing.Fewest(zero)), 0)
		wantInts(t, "Plan of nothing", must[[]int](t, "Plan")(dressing.Plan(zero)), make([]int, len(plan)))
	}
	if done < 100 || fewer < 50 {
		t.Errorf("%d tasks can be done, %d of them with fewer strokes: too few", done, fewer)
	}
}
