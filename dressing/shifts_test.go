package dressing_test

import (
	"math/rand"
	"slices"
	"testing"

	"millrind/api"
	"millrind/dressing"
)

// pair is the crew of the chapter's examples.
func pair() api.Crew { return api.Crew{Caps: []int{5, 3}, Reach: [][]int{{0, 1}, {1}}} }

// randomCrew is some dressers, who may reach one line more than there are.
func randomCrew(rng *rand.Rand, dressers, lines, most int) api.Crew {
	var c api.Crew
	for range dressers {
		c.Caps = append(c.Caps, 1+rng.Intn(most))
		var reach []int
		for k := range lines + 1 {
			if rng.Intn(2) == 0 {
				reach = append(reach, k)
			}
		}
		c.Reach = append(c.Reach, reach)
	}
	return c
}

func randomLoads(rng *rand.Rand, lines, most int) []int {
	var l []int
	for range lines {
		l = append(l, rng.Intn(most+1))
	}
	return l
}

func shiftsOf(t *testing.T, c api.Crew, loads []int) int {
	t.Helper()
	return must[int](t, "Shifts")(dressing.Shifts(c, loads))
}

// eachCrew calls a function for small crews with loads that they reach.
func eachCrew(t *testing.T, seed int64, count int, f func(rng *rand.Rand, c api.Crew, loads []int)) {
	t.Helper()
	rng := rand.New(rand.NewSource(seed))
	done := 0
	for range count {
		c := randomCrew(rng, 1+rng.Intn(3), 1+rng.Intn(3), 3)
		loads := randomLoads(rng, 1+rng.Intn(3), 5)
		if _, is := modelShifts(c, loads); !is {
			continue
		}
		done++
		if f(rng, c, loads); t.Failed() {
			t.Fatalf("the crew is %+v with %v", c, loads)
		}
	}
	if done < count/3 {
		t.Errorf("only %d crews reach their lines", done)
	}
}

// P5.1, D14 to D18: the examples of the chapter.
func TestExampleShifts(t *testing.T) {
	c, loads := pair(), []int{9, 4}
	want(t, "Shifts", shiftsOf(t, c, loads), 2)
	wantError(t, "CheckWork", dressing.CheckWork(c, loads, 2, [][]int{{9, 0}, {0, 4}}), api.OK)
	for _, x := range []struct {
		lines []int
		want  int
	}{{[]int{0}, 2}, {[]int{0, 1}, 2}, {[]int{1}, 1}} {
		want(t, "CheckCut", must[int](t, "CheckCut")(dressing.CheckCut(c, loads, x.lines)), x.want)
	}
}

// roster checks all that crews are told of loads: work, days and a cut for so many shifts.
func roster(t *testing.T, c api.Crew, loads []int, shifts int) {
	t.Helper()
	work := must[[][]int](t, "Work")(dressing.Work(c, loads))
	if !modelWork(c, loads, shifts, work) {
		t.Errorf("Work: %v cannot be done in %d shifts", work, shifts)
	}
	wantError(t, "CheckWork of Work", dressing.CheckWork(c, loads, shifts, work), api.OK)
	if shifts > 0 {
		wantError(t, "CheckWork for fewer shifts", dressing.CheckWork(c, loads, shifts-1, work), api.ErrPlan)
	}
	cut := must[[]int](t, "Cut")(dressing.Cut(c, loads))
	want(t, "CheckCut of Cut", must[int](t, "CheckCut")(dressing.CheckCut(c, loads, cut)), shifts)
	if shifts == 0 {
		wantInts(t, "Cut for no shifts", cut, nil)
	}
	days, e := dressing.Days(c, loads)
	if shifts > 400 {
		wantError(t, "Days", e, api.ErrLimit)
		want(t, "the days with an error", len(days), 0)
		return
	}
	wantError(t, "Days", e, api.OK)
	want(t, "the number of days", len(days), shifts)
	checkDays(t, c, loads, shifts, days)
}

// checkDays checks that no dresser makes more than they can in a shift, and that all shifts together are work.
func checkDays(t *testing.T, c api.Crew, loads []int, shifts int, days [][][]int) {
	t.Helper()
	sum := make([][]int, len(c.Caps))
	for i := range sum {
		sum[i] = make([]int, len(loads))
	}
	for _, day := range days {
		if len(day) != len(c.Caps) {
			t.Fatalf("a day is %v", day)
		}
		for i, row := range day {
			if len(row) != len(loads) || total(row) > c.Caps[i] {
				t.Fatalf("the dresser %d makes %v in a shift", i, row)
			}
			for k, n := range row {
				if n < 0 {
					t.Fatalf("the dresser %d makes %v in a shift", i, row)
				}
				sum[i][k] += n
			}
		}
	}
	if !modelWork(c, loads, shifts, sum) {
		t.Errorf("the days together are %v", sum)
	}
	wantError(t, "CheckWork of all days", dressing.CheckWork(c, loads, shifts, sum), api.OK)
}

// P5.1, P5.7, P5.8, P0.5, D14, D15, D17, D19: Shifts is the least number for which there is work; Work and Days can be done in it, and Cut proves it. All work is gone through.
func TestShiftsOfSmallCrews(t *testing.T) {
	rng := rand.New(rand.NewSource(15))
	done, out := 0, 0
	for range 3000 {
		c := randomCrew(rng, rng.Intn(4), 3, 3)
		loads := randomLoads(rng, rng.Intn(4), 5)
		shifts, is := modelShifts(c, loads)
		if !is {
			out++
			_, e := dressing.Shifts(c, loads)
			wantError(t, "Shifts", e, api.ErrReach)
			continue
		}
		done++
		want(t, "Shifts", shiftsOf(t, c, loads), shifts)
		if roster(t, c, loads, shifts); t.Failed() {
			t.Fatalf("the crew is %+v with %v", c, loads)
		}
	}
	if min(done, out) < 500 {
		t.Errorf("%d crews reach their lines, %d do not: too few", done, out)
	}
}

// P5.1, P5.7, P5.8: with more lines Shifts is what the line or lines that need most need, of all that could be asked for.
func TestShiftsOfMoreLines(t *testing.T) {
	rng := rand.New(rand.NewSource(16))
	done := 0
	for range 300 {
		c := randomCrew(rng, 1+rng.Intn(7), 8, 20)
		loads := randomLoads(rng, 8, 300)
		most := 0
		for _, lines := range subsets(len(loads)) {
			n, is := modelCut(c, loads, lines)
			got, e := dressing.CheckCut(c, loads, lines)
			if !is {
				most = -1
				wantError(t, "CheckCut", e, api.ErrReach)
				want(t, "CheckCut with an error", got, 0)
				break
			}
			wantError(t, "CheckCut", e, api.OK)
			want(t, "CheckCut", got, n)
			most = max(most, n)
		}
		if most < 0 {
			_, e := dressing.Work(c, loads)
			wantError(t, "Work", e, api.ErrReach)
			continue
		}
		done++
		want(t, "Shifts", shiftsOf(t, c, loads), most)
		if roster(t, c, loads, most); t.Failed() {
			t.Fatalf("the crew is %+v with %v", c, loads)
		}
	}
	if done < 100 {
		t.Errorf("only %d crews reach their lines", done)
	}
}

// spoilWork moves a stroke to another line or dresser, or adds or takes away some.
func spoilWork(rng *rand.Rand, work [][]int) [][]int {
	var l [][]int
	for _, row := range work {
		l = append(l, slices.Clone(row))
	}
	i, k := rng.Intn(len(l)), rng.Intn(len(l[0]))
	switch rng.Intn(6) {
	case 0:
		l[i][k]++
	case 1:
		l[i][k]--
	case 2:
		n := rng.Intn(4)
		l[i][k] -= n
		l[rng.Intn(len(l))][k] += n
	case 3:
		l[i][k]--
		l[i][rng.Intn(len(l[0]))]++
	case 4:
		l[i] = append(l[i], 0)
	}
	return l
}

// P5.1, P5.7, D16: CheckWork says of each of much work what the chapter's words do; whatever it accepts takes at least Shifts.
func TestCheckWork(t *testing.T) {
	accepted, refused := 0, 0
	eachCrew(t, 17, 1500, func(rng *rand.Rand, c api.Crew, loads []int) {
		least := shiftsOf(t, c, loads)
		work := must[[][]int](t, "Work")(dressing.Work(c, loads))
		for range 10 {
			x, shifts := spoilWork(rng, work), max(0, least-1+rng.Intn(4))
			e := dressing.CheckWork(c, loads, shifts, x)
			if !modelWork(c, loads, shifts, x) {
				refused++
				wantError(t, "CheckWork", e, api.ErrPlan)
				continue
			}
			accepted++
			wantError(t, "CheckWork", e, api.OK)
			if shifts < least {
				t.Errorf("%v is done in %d shifts", x, shifts)
			}
		}
	})
	if min(accepted, refused) < 1000 {
		t.Errorf("%d accepted, %d refused: too few", accepted, refused)
	}
}

// P5.1, D16: work of another shape, with numbers below 0, beyond reach or whose sums would wrap around, is ErrPlan, also for any number of shifts.
func TestNoWork(t *testing.T) {
	c, loads := pair(), []int{9, 4}
	for _, x := range [][][]int{
		nil, {{9, 0}}, {{9, 0}, {0, 4}, {0, 0}}, {{9}, {0, 4}}, {{9, 0}, {0}}, {{9, 0, 0}, {0, 4, 0}}, {{9, 0}, nil},
		{{9, 5}, {0, -1}}, {{10, 0}, {-1, 4}}, {{8, 0}, {1, 4}}, {{9, 0}, {0, 3}}, {{9, 1}, {0, 4}}, {{0, 0}, {0, 0}},
		{{9, 1<<63 - 1}, {0, 1<<63 - 1}}, {{9, 4}, {0, 1 << 62}}, {{9, -1 << 63}, {0, -1 << 63}},
	} {
		for _, shifts := range []int{2, 100, 1<<63 - 1} {
			wantError(t, "CheckWork", dressing.CheckWork(c, loads, shifts, x), api.ErrPlan)
		}
	}
	good := [][]int{{9, 0}, {0, 4}}
	wantError(t, "CheckWork in no shifts", dressing.CheckWork(c, loads, 0, good), api.ErrPlan)
	wantError(t, "CheckWork in many shifts", dressing.CheckWork(c, loads, 1<<63-1, good), api.OK)
	wantError(t, "CheckWork in many shifts that wrap around", dressing.CheckWork(c, loads, 1<<62, good), api.OK)
	wantError(t, "CheckWork of an even share", dressing.CheckWork(c, []int{10, 6}, 2, [][]int{{10, 0}, {0, 6}}), api.OK)
	wantError(t, "CheckWork of nothing", dressing.CheckWork(c, []int{0, 0}, 0, [][]int{{0, 0}, {0, 0}}), api.OK)
	wantError(t, "CheckWork without lines", dressing.CheckWork(c, nil, 0, [][]int{nil, {}}), api.OK)
	wantError(t, "CheckWork without dressers", dressing.CheckWork(api.Crew{}, []int{0, 0}, 0, nil), api.OK)
	wantError(t, "CheckWork of a load without dressers", dressing.CheckWork(api.Crew{}, []int{0, 1}, 9, nil), api.ErrPlan)
}

// P5.1, D14 to D19: no lines, no dressers and no loads take no shifts; a line without a load need not be reached.
func TestShiftsOfNothing(t *testing.T) {
	for _, x := range []struct {
		c     api.Crew
		loads []int
	}{{api.Crew{}, nil}, {pair(), nil}, {pair(), []int{0, 0}}, {api.Crew{}, []int{0, 0, 0}}, {pair(), []int{0, 0, 0}}} {
		want(t, "Shifts", shiftsOf(t, x.c, x.loads), 0)
		roster(t, x.c, x.loads, 0)
	}
	want(t, "Shifts", shiftsOf(t, pair(), []int{1, 0, 0}), 1)
	roster(t, pair(), []int{1, 0, 0}, 1)
}

// P5.1, D18: the loads of the lines count, and of the dressers those who reach any of them, each once; a line without a load adds its dressers.
func TestCheckCut(t *testing.T) {
	c := api.Crew{Caps: []int{5, 3, 2}, Reach: [][]int{{0, 1}, {1, 2, 63}, nil}}
	loads := []int{9, 4, 0, 0, 7}
	for _, x := range []struct {
		lines []int
		want  int
		e     api.Errno
	}{
		{nil, 0, api.OK}, {[]int{}, 0, api.OK}, {[]int{0}, 2, api.OK}, {[]int{1}, 1, api.OK}, {[]int{0, 1}, 2, api.OK}, {[]int{0, 2}, 2, api.OK},
		{[]int{2}, 0, api.OK}, {[]int{3}, 0, api.OK}, {[]int{4}, 0, api.ErrReach}, {[]int{3, 4}, 0, api.ErrReach}, {[]int{0, 3}, 2, api.OK}, {[]int{0, 1, 2, 3, 4}, 3, api.OK},
		{[]int{1, 0}, 0, api.ErrArg}, {[]int{0, 0}, 0, api.ErrArg}, {[]int{-1, 0}, 0, api.ErrArg}, {[]int{5}, 0, api.ErrArg}, {[]int{0, 63}, 0, api.ErrArg}, {[]int{4, 4}, 0, api.ErrArg},
	} {
		n, e := dressing.CheckCut(c, loads, x.lines)
		wantError(t, "CheckCut", e, x.e)
		want(t, "CheckCut", n, x.want)
	}
	_, e := dressing.CheckCut(c, nil, []int{0})
	wantError(t, "CheckCut without loads", e, api.ErrArg)
}

// P5.9: Shifts does not increase if a load becomes less, or a dresser is added, or one reaches further.
func TestMoreHands(t *testing.T) {
	fewer := 0
	eachCrew(t, 18, 1500, func(rng *rand.Rand, c api.Crew, loads []int) {
		before := shiftsOf(t, c, loads)
		less := slices.Clone(loads)
		k := rng.Intn(len(less))
		less[k] = rng.Intn(less[k] + 1)
		more := randomCrew(rng, 1, 3, 3)
		added := api.Crew{Caps: append(slices.Clone(c.Caps), more.Caps...), Reach: append(slices.Clone(c.Reach), more.Reach...)}
		further := api.Crew{Caps: c.Caps, Reach: slices.Clone(c.Reach)}
		i := rng.Intn(len(c.Caps))
		further.Reach[i] = slices.Compact(slices.Sorted(slices.Values(append([]int{rng.Intn(4)}, c.Reach[i]...))))
		for _, n := range []int{shiftsOf(t, c, less), shiftsOf(t, added, loads), shiftsOf(t, further, loads)} {
			if n > before {
				t.Errorf("%d shifts became %d", before, n)
			}
			if n < before {
				fewer++
			}
		}
	})
	if fewer < 300 {
		t.Errorf("only %d became fewer", fewer)
	}
}
