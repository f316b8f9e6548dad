package dressing_test

import (
	"math/rand"
	"slices"
	"testing"

	"millrind/api"
	"millrind/dressing"
)

// P5.1, D7 to D10: the examples of the chapter.
func TestExamplePrices(t *testing.T) {
	x := example()
	for _, c := range []struct {
		prices api.Prices
		want   int
		e      api.Errno
	}{
		{api.Prices{Low: []int{1, 0, 1, 0}}, 0, api.ErrPrices},
		{api.Prices{Low: []int{1, 0, 1, 0}, High: []int{0, 0, 0, 0}}, 3, api.OK},
		{api.Prices{Low: []int{1, 1, 0, 0}, High: []int{0, 0, 0, 0}}, 0, api.ErrPrices},
	} {
		n, e := dressing.CheckPrices(x, c.prices)
		wantError(t, "CheckPrices", e, c.e)
		want(t, "CheckPrices", n, c.want)
	}
	wantError(t, "CheckNever", dressing.CheckNever(hopeless(), api.Prices{Low: []int{1, 0}, High: []int{0, 1}}), api.OK)
}

// P5.1, P5.3, P0.5, D7, D9: Prove proves Fewest where a plan does a task, and Never returns prices where none does; just one of both returns no error.
func TestProveOrNever(t *testing.T) {
	check := func(x api.Task, possible bool) {
		t.Helper()
		p, n, e := dressing.Prove(x)
		y, f := dressing.Never(x)
		if !possible {
			wantError(t, "Prove", e, api.ErrStroke)
			if len(p.Low)+len(p.High) > 0 || n != 0 {
				t.Errorf("Prove with an error: %v %d", p, n)
			}
			wantError(t, "Never", f, api.OK)
			if is, gain, value := modelPrices(x, y); !is || gain > 0 || value <= 0 {
				t.Errorf("Never: %+v of %+v prove nothing", y, x)
			}
			wantError(t, "CheckNever", dressing.CheckNever(x, y), api.OK)
			return
		}
		wantError(t, "Prove", e, api.OK)
		want(t, "the number of Prove", n, must[int](t, "Fewest")(dressing.Fewest(x)))
		if is, gain, value := modelPrices(x, p); !is || gain > 1 || value != n {
			t.Errorf("Prove: %+v of %+v do not prove %d", p, x, n)
		}
		want(t, "CheckPrices", must[int](t, "CheckPrices")(dressing.CheckPrices(x, p)), n)
		wantError(t, "Never", f, api.ErrNone)
		if len(y.Low)+len(y.High) > 0 {
			t.Errorf("Never with an error: %v", y)
		}
	}
	eachTask(t, 3000, func(x api.Task, plans [][]int) { check(x, len(plans) > 0) })
	for _, x := range largerTasks(300, 60, 1000) {
		_, e := dressing.Plan(x)
		check(x, e == api.OK)
	}
}

// randomPrices are often such as Prove or Never returns, changed a little.
func randomPrices(rng *rand.Rand, x api.Task) api.Prices {
	p, _, e := dressing.Prove(x)
	if e != api.OK {
		p, _ = dressing.Never(x)
	}
	if rng.Intn(3) == 0 {
		for i := range x.Need {
			p.Low[i], p.High[i] = rng.Intn(3), rng.Intn(3)
		}
	}
	for range rng.Intn(3) {
		i := rng.Intn(len(x.Need))
		p.Low[i] += rng.Intn(3) - 1
		p.High[i] += rng.Intn(3) - 1
	}
	return p
}

// P5.1, P5.3, D8, D10: CheckPrices and CheckNever say of each of many prices what the chapter's words do; no plan has fewer strokes than prices prove, and where CheckNever accepts any, no plan does the task.
func TestCheckPrices(t *testing.T) {
	rng := rand.New(rand.NewSource(8))
	proofs, refusals, nevers := 0, 0, 0
	eachTask(t, 1500, func(x api.Task, plans [][]int) {
		for range 12 {
			p := randomPrices(rng, x)
			is, gain, value := modelPrices(x, p)
			n, e := dressing.CheckPrices(x, p)
			if !is || gain > 1 {
				wantError(t, "CheckPrices", e, api.ErrPrices)
				want(t, "CheckPrices with an error", n, 0)
				refusals++
			} else {
				wantError(t, "CheckPrices", e, api.OK)
				want(t, "CheckPrices", n, value)
				proofs++
				if len(plans) > 0 && total(firstFewest(plans)) < n {
					t.Errorf("%+v prove more strokes than are needed", p)
				}
			}
			e = dressing.CheckNever(x, p)
			if !is || gain > 0 || value <= 0 {
				wantError(t, "CheckNever", e, api.ErrPrices)
				continue
			}
			wantError(t, "CheckNever", e, api.OK)
			nevers++
			if len(plans) > 0 {
				t.Errorf("%+v prove that no plan does what %v does", p, plans[0])
			}
		}
	})
	if min(proofs, refusals, nevers) < 500 {
		t.Errorf("%d proofs, %d refusals, %d proofs that nothing does it", proofs, refusals, nevers)
	}
}

// P5.1, D8, D10: prices have as many numbers as cells, from 0 to 100000; a value may be 0 or less for CheckPrices, but not for CheckNever.
func TestNoPrices(t *testing.T) {
	x := task(1, 1, 2, 3, 3)
	good := []int{0, 0}
	for _, p := range []api.Prices{
		{}, {Low: good}, {High: good}, {Low: []int{0}, High: good}, {Low: good, High: []int{0}}, {Low: []int{0, 0, 0}, High: good}, {Low: good, High: []int{0, 0, 0}},
		{Low: []int{-1, 0}, High: good}, {Low: good, High: []int{0, -1}}, {Low: good, High: []int{100001, 0}}, {Low: []int{0, 100001}, High: []int{0, 100000}},
		{Low: []int{1 << 62, 0}, High: []int{1 << 62, 0}},
	} {
		n, e := dressing.CheckPrices(x, p)
		wantError(t, "CheckPrices", e, api.ErrPrices)
		want(t, "CheckPrices with an error", n, 0)
		wantError(t, "CheckNever", dressing.CheckNever(x, p), api.ErrPrices)
	}
	for _, c := range []struct {
		low, high []int
		want      int
		never     api.Errno
	}{
		{[]int{0, 0}, []int{0, 0}, 0, api.ErrPrices},
		{[]int{1, 1}, []int{0, 0}, 4, api.ErrPrices},
		{[]int{0, 0}, []int{100000, 100000}, -500000, api.ErrPrices},
		{[]int{100000, 100000}, []int{100000, 99999}, -99997, api.ErrPrices},
	} {
		p := api.Prices{Low: c.low, High: c.high}
		n, e := dressing.CheckPrices(x, p)
		wantError(t, "CheckPrices", e, api.OK)
		want(t, "CheckPrices", n, c.want)
		wantError(t, "CheckNever", dressing.CheckNever(x, p), c.never)
	}
	impossible := task(2, 5, 5, 4, 4)
	wantError(t, "CheckNever of the value 1", dressing.CheckNever(impossible, api.Prices{Low: []int{1, 0}, High: []int{0, 1}}), api.OK)
	wantError(t, "CheckNever of the value 0", dressing.CheckNever(task(2, 4, 4, 4, 4), api.Prices{Low: []int{1, 0}, High: []int{0, 1}}), api.ErrPrices)
	wantError(t, "CheckNever of a gain of 1", dressing.CheckNever(impossible, api.Prices{Low: []int{1, 1}, High: []int{0, 1}}), api.ErrPrices)
	wantError(t, "CheckNever of great prices", dressing.CheckNever(impossible, api.Prices{Low: []int{100000, 0}, High: []int{0, 100000}}), api.OK)
}

// P5.1, R5: the value of the greatest prices for the greatest needs does not wrap around.
func TestGreatPrices(t *testing.T) {
	x := api.Task{Wide: 400, Need: slices.Repeat([]api.Span{{Lo: 100000, Hi: 100000}}, 400)}
	none, all := make([]int, 400), slices.Repeat([]int{100000}, 400)
	n := must[int](t, "CheckPrices")(dressing.CheckPrices(x, api.Prices{Low: none, High: all}))
	want(t, "CheckPrices", n, -400*100000*100000)
	n = must[int](t, "CheckPrices")(dressing.CheckPrices(x, api.Prices{Low: all, High: all}))
	want(t, "CheckPrices", n, 0)
	_, e := dressing.CheckPrices(x, api.Prices{Low: all, High: none})
	wantError(t, "CheckPrices", e, api.ErrPrices)
}
