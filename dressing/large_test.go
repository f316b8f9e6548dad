package dressing_test

import (
	"math/rand"
	"slices"
	"testing"

	"millrind/api"
	"millrind/dressing"
)

// P5.1, P5.2, P5.3: tasks with as many cells as may be and the greatest needs have plans and prices, for narrow and for wide strokes.
func TestLongLines(t *testing.T) {
	rng := rand.New(rand.NewSource(400))
	for _, wide := range []int{1, 2, 3, 7, 50, 199, 200, 399, 400} {
		x := api.Task{Wide: wide}
		plan := make([]int, 400-wide+1)
		for k := range plan {
			plan[k] = rng.Intn(100000/wide + 1)
		}
		for _, n := range modelCovers(wide, 400, plan) {
			x.Need = append(x.Need, api.Span{Lo: max(0, n-rng.Intn(100)), Hi: min(100000, n+rng.Intn(100))})
		}
		got := must[[]int](t, "Plan")(dressing.Plan(x))
		if !modelDoes(x, got) || total(got) > total(plan) {
			t.Errorf("Plan for strokes over %d cells: %d strokes", wide, total(got))
		}
		p, n := prove(t, x)
		want(t, "Prove", n, total(got))
		if is, gain, value := modelPrices(x, p); !is || gain > 1 || value != n {
			t.Errorf("the prices for strokes over %d cells do not prove %d", wide, n)
		}
	}
}

// tightLine is 400 cells whose needs, each from the one beside it, rise and fall so that only one plan does the task; with one stroke less for the last cell none does.
func tightLine(less int) (api.Task, []int) {
	x := api.Task{Wide: 2}
	plan := make([]int, 399)
	for k := range plan {
		plan[k] = 50000 - 100*(k%2)
	}
	for _, n := range modelCovers(2, 400, plan) {
		x.Need = append(x.Need, api.Span{Lo: n, Hi: n})
	}
	x.Need[399] = api.Span{Lo: x.Need[399].Lo - less, Hi: x.Need[399].Hi - less}
	return x, plan
}

// P5.1, P5.3: walks through all cells prove a plan, or that there is none.
func TestLongWalks(t *testing.T) {
	x, plan := tightLine(0)
	wantInts(t, "Plan", must[[]int](t, "Plan")(dressing.Plan(x)), plan)
	p, n := prove(t, x)
	want(t, "Prove", n, total(plan))
	want(t, "CheckPrices", must[int](t, "CheckPrices")(dressing.CheckPrices(x, p)), n)
	x, _ = tightLine(1)
	y := must[api.Prices](t, "Never")(dressing.Never(x))
	if is, gain, value := modelPrices(x, y); !is || gain > 0 || value <= 0 {
		t.Errorf("Never: the gain %d, the value %d", gain, value)
	}
	want(t, "the cells that are needed", total(y.Low)+total(y.High) >= 399, true)
}

// P5.1, P5.7, R5: the greatest loads of all lines, in the hands of one slow dresser, take 2560000000 shifts.
func TestMostShifts(t *testing.T) {
	loads := slices.Repeat([]int{40000000}, 64)
	all := make([]int, 64)
	for k := range all {
		all[k] = k
	}
	c := api.Crew{Caps: []int{1}, Reach: [][]int{all}}
	want(t, "Shifts", shiftsOf(t, c, loads), 2560000000)
	roster(t, c, loads, 2560000000)
	c = api.Crew{Caps: slices.Repeat([]int{100000}, 16), Reach: slices.Repeat([][]int{all}, 16)}
	want(t, "Shifts", shiftsOf(t, c, loads), 1600)
	roster(t, c, loads, 1600)
}

// P5.1, P5.7, P5.8, D19: as many shifts as days may have; one more is ErrLimit.
func TestMostDays(t *testing.T) {
	c := api.Crew{Caps: []int{7, 5}, Reach: [][]int{{0, 1}, {1, 2}}}
	want(t, "Shifts", shiftsOf(t, c, []int{2800, 900, 1100}), 400)
	roster(t, c, []int{2800, 900, 1100}, 400)
	want(t, "Shifts", shiftsOf(t, c, []int{2801, 900, 1100}), 401)
	roster(t, c, []int{2801, 900, 1100}, 401)
}

// stairs is a crew of 16 in which each dresser also reaches the line of the next one, so that strokes must be handed on from one to the other.
func stairs(loads []int) api.Crew {
	var c api.Crew
	for i := range 16 {
		c.Caps = append(c.Caps, 100+i)
		reach := []int{i}
		if i < 15 {
			reach = append(reach, i+1)
		}
		for k := 16; k < len(loads); k++ {
			if k%16 == i {
				reach = append(reach, k)
			}
		}
		c.Reach = append(c.Reach, reach)
	}
	return c
}

// P5.1, P5.7, P5.8: strokes are handed on through the whole crew, and the lines that need most are found, whatever their number.
func TestStairs(t *testing.T) {
	rng := rand.New(rand.NewSource(19))
	for n := range 60 {
		loads := randomLoads(rng, 16+rng.Intn(49), 1+rng.Intn(40000000))
		if n%2 == 0 {
			loads = randomLoads(rng, 16, 30000)
			loads[n%16] += 300000
		}
		c := stairs(loads)
		roster(t, c, loads, shiftsOf(t, c, loads))
	}
	loads := make([]int, 16)
	loads[0], loads[1] = 1000, 100000
	roster(t, stairs(loads), loads, shiftsOf(t, stairs(loads), loads))
}
