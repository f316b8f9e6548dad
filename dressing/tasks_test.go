package dressing_test

import (
	"math/rand"
	"slices"
	"testing"

	"millrind/api"
	"millrind/dressing"
)

func task(wide int, ends ...int) api.Task {
	t := api.Task{Wide: wide}
	for i := 0; i < len(ends); i += 2 {
		t.Need = append(t.Need, api.Span{Lo: ends[i], Hi: ends[i+1]})
	}
	return t
}

// example is the task t of the chapter's examples.
func example() api.Task { return task(2, 1, 1, 1, 3, 2, 2, 0, 2) }

// hopeless is the task u of the chapter's examples, which no plan does.
func hopeless() api.Task { return task(2, 1, 1, 0, 0) }

func randomSpan(rng *rand.Rand, most, room int) api.Span {
	lo := rng.Intn(most + 1)
	return api.Span{Lo: lo, Hi: lo + rng.Intn(room+1)}
}

// randomTask has some cells whose needs are independent of one another, or (more often) those that a plan happens to meet, made wider or tighter a little.
func randomTask(rng *rand.Rand, cells, most int) api.Task {
	t := api.Task{Wide: 1 + rng.Intn(cells)}
	if rng.Intn(2) == 0 {
		for range cells {
			t.Need = append(t.Need, randomSpan(rng, most, most))
		}
		return t
	}
	plan := make([]int, cells-t.Wide+1)
	for k := range plan {
		plan[k] = rng.Intn(most + 1)
	}
	for _, n := range modelCovers(t.Wide, cells, plan) {
		x := api.Span{Lo: max(0, n-rng.Intn(2)), Hi: n + rng.Intn(2)}
		if rng.Intn(6) == 0 {
			x = api.Span{Lo: x.Lo + 1, Hi: x.Hi + 1}
		}
		t.Need = append(t.Need, x)
	}
	return t
}

// smallTasks are tasks whose plans can all be gone through, always the same ones.
func smallTasks(count int) []api.Task {
	rng := rand.New(rand.NewSource(5))
	l := []api.Task{example(), hopeless()}
	for range count {
		l = append(l, randomTask(rng, 1+rng.Intn(5), 2))
	}
	return l
}

// eachTask calls a function for each small task, with the plans that do it.
func eachTask(t *testing.T, count int, f func(x api.Task, plans [][]int)) {
	t.Helper()
	possible := 0
	for _, x := range smallTasks(count) {
		plans := plansOf(x)
		if len(plans) > 0 {
			possible++
		}
		if f(x, plans); t.Failed() {
			t.Fatalf("the task is %+v", x)
		}
	}
	if possible < count/4 || count-possible < count/8 {
		t.Errorf("%d of %d tasks can be done: too few of one sort", possible, count)
	}
}

// largerTasks are tasks of many cells, always the same ones.
func largerTasks(count, cells, most int) []api.Task {
	rng := rand.New(rand.NewSource(55))
	var l []api.Task
	for range count {
		l = append(l, randomTask(rng, 2+rng.Intn(cells-1), most))
	}
	return l
}

func must[T any](t *testing.T, what string) func(T, api.Errno) T {
	return func(v T, e api.Errno) T {
		t.Helper()
		if e != api.OK {
			t.Fatalf("%s: error %d", what, e)
		}
		return v
	}
}

// prove returns what Prove does, without its error.
func prove(t *testing.T, x api.Task) (api.Prices, int) {
	t.Helper()
	p, n, e := dressing.Prove(x)
	wantError(t, "Prove", e, api.OK)
	return p, n
}

func want[T comparable](t *testing.T, what string, got, want T) {
	t.Helper()
	if got != want {
		t.Errorf("%s: got %v, want %v", what, got, want)
	}
}

func wantInts(t *testing.T, what string, got, want []int) {
	t.Helper()
	if !slices.Equal(got, want) {
		t.Errorf("%s: got %v, want %v", what, got, want)
	}
}

func wantLists(t *testing.T, what string, got, want [][]int) {
	t.Helper()
	if !slices.EqualFunc(got, want, slices.Equal) {
		t.Errorf("%s: got %v, want %v", what, got, want)
	}
}

func wantError(t *testing.T, what string, got, want api.Errno) {
	t.Helper()
	if got != want {
		t.Errorf("%s: error %d, want %d", what, got, want)
	}
}
