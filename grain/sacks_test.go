package grain_test

import (
	"math"
	"math/rand/v2"
	"slices"
	"testing"

	"millrind/api"
	"millrind/grain"
)

// someGrades are grades of one to eight numbers.
func someGrades() [][]int {
	return [][]int{{0}, {0, 1}, {0, 2}, {0, 2, 5}, {0, 1, 3, 4}, {0, 64}, {0, 1, 2, 3, 4, 5, 6, 7}}
}

// P3.1, G15: the chapter's examples, and the ends of each grade.
func TestGradeOf(t *testing.T) {
	for _, x := range []struct {
		grades     []int
		cuts, want int
	}{
		{[]int{0, 2, 5}, 0, 0}, {[]int{0, 2, 5}, 1, 0}, {[]int{0, 2, 5}, 2, 1}, {[]int{0, 2, 5}, 4, 1}, {[]int{0, 2, 5}, 5, 2}, {[]int{0, 2, 5}, 6, 2}, {[]int{0, 2, 5}, math.MaxInt, 2},
		{[]int{0}, 0, 0}, {[]int{0}, 9, 0}, {[]int{0, 64}, 63, 0}, {[]int{0, 64}, 64, 1}, {[]int{0, 1, 2, 3, 4, 5, 6, 7}, 7, 7}, {[]int{0, 1, 2, 3, 4, 5, 6, 7}, 6, 6},
	} {
		if n := must[int](t, "GradeOf")(grain.GradeOf(x.grades, x.cuts)); n != x.want {
			t.Errorf("GradeOf(%v, %d): %d, want %d", x.grades, x.cuts, n, x.want)
		}
	}
	for _, cuts := range []int{-1, math.MinInt} {
		if n, e := grain.GradeOf([]int{0, 2}, cuts); e != api.ErrArg || n != 0 {
			t.Errorf("GradeOf %d cuts: %d, error %d", cuts, n, e)
		}
	}
	for _, grades := range [][]int{nil, {1}, {0, 0}, {0, 65}} {
		for _, cuts := range []int{0, 3, -1} {
			if n, e := grain.GradeOf(grades, cuts); e != api.ErrGrades || n != 0 {
				t.Errorf("GradeOf(%v, %d): %d, error %d", grades, cuts, n, e)
			}
		}
	}
}

// P3.1, G16: the grades of all numbers of a cut set.
func TestGradeSet(t *testing.T) {
	several := 0
	for _, m := range freeMills() {
		w := modelOf(m)
		for _, s := range w.entries() {
			for _, size := range []int{1, 5, 40, api.MaxSize} {
				for _, grades := range someGrades() {
					l := must[[]int](t, "GradeSet")(grain.GradeSet(m, grades, s, size))
					wantInts(t, "GradeSet", l, gradeSet(grades, w.cutSet(s, size)))
					if len(l) > 2 {
						several++
					}
				}
			}
		}
	}
	if several < 100 {
		t.Errorf("%d times more than 2 grades", several)
	}
	// Grades between two numbers of a cut set: 0 and 3, and 0 and 70.
	for _, n := range []int{3, 70} {
		m := apart(n)
		wantInts(t, "CutSet", cutSet(t, m, api.State{Turn: 1}, 4), []int{0, n})
		for grades, want := range map[[3]int][]int{{0, 1, 3}: {0, 2}, {0, 3, 4}: {0, 1}, {0, 1, 2}: {0, 2}, {0, 63, 64}: {0, 2}} {
			if n == 3 && grades[1] == 63 {
				want = []int{0}
			}
			if n == 70 && grades[1] == 3 {
				want = []int{0, 2}
			}
			wantInts(t, "GradeSet", must[[]int](t, "GradeSet")(grain.GradeSet(m, grades[:], api.State{Turn: 1}, 4)), want)
		}
	}
}

// apart is a free mill of a single ring without gaps: a grain at the sector 0 and the turn 1 leaves without a cut, or stays and is cut n times, with the last one of which it leaves.
func apart(n int) api.Mill {
	m := plain(1, n+1, 0, api.Move{Cut: true})
	m.Pair.Runner.Kinds[n] = api.Steep
	m.Pair.Runner.Kinds[1] = api.Feather
	m.Pair.Drive[1] = []api.Move{{Cut: true}, {Out: 1}}
	m.Pair.Drive[2] = []api.Move{{Out: 1, Cut: true}}
	return m
}

// P3.1: the chapter's example of a sack, and one with grains of two grades.
func TestSackExamples(t *testing.T) {
	x := must[api.Sack](t, "SackOf")(grain.SackOf(sampleFree(), []int{0, 1}, api.Span{Lo: 2, Hi: 4}, 10))
	wantInts(t, "Least", x.Least, []int{40, 80})
	wantInts(t, "Most", x.Most, []int{40, 80})
	twice := plain(2, 2, 1, api.Move{Out: 1}, api.Move{Out: 1, Cut: true})
	x = must[api.Sack](t, "SackOf")(grain.SackOf(twice, []int{0, 2, 3}, api.Span{Lo: 2, Hi: 3}, 5))
	wantInts(t, "Least", x.Least, []int{20, 0, 0})
	wantInts(t, "Most", x.Most, []int{40, 20, 0})
}

func sum(l []int) int {
	n := 0
	for _, x := range l {
		n += x
	}
	return n
}

// P3.1, G17, and P3.7: sacks that are filled grain by grain; what their sums are, and which grades are empty.
func TestSackOf(t *testing.T) {
	r := rand.New(rand.NewPCG(43, 44))
	for _, m := range freeMills() {
		w := modelOf(m)
		for _, size := range []api.Span{{Lo: 1, Hi: 1}, {Lo: 2, Hi: 9}, {Lo: 30, Hi: 60}, {Lo: api.MaxSize - 2, Hi: api.MaxSize}} {
			for _, grades := range someGrades() {
				each := r.IntN(4)
				x := must[api.Sack](t, "SackOf")(grain.SackOf(m, grades, size, each))
				want := w.sack(grades, size, each)
				wantInts(t, "Least", x.Least, want.Least)
				wantInts(t, "Most", x.Most, want.Most)
				all := len(w.entries()) * (size.Hi - size.Lo + 1) * each
				if sum(x.Least) > all || sum(x.Most) < all {
					t.Errorf("SackOf %v grains: %v", all, x)
				}
				cuts := must[[]int](t, "Entering")(grain.Entering(m, size))
				for grade := range grades {
					if x.Least[grade] > x.Most[grade] || !slices.Contains(gradeSet(grades, cuts), grade) && x.Most[grade] > 0 {
						t.Errorf("SackOf of the grade %d: %v", grade, x)
					}
				}
				if t.Failed() {
					t.Fatalf("%v, %v each, grades %v, in %v", size, each, grades, m)
				}
			}
		}
	}
}

// P3.1, G17: as many grains as may be, and one more of each size and entry.
func TestFullSacks(t *testing.T) {
	m := sampleFree()
	for _, x := range []struct {
		size api.Span
		each int
		want api.Errno
	}{
		{api.Span{Lo: 4, Hi: 4}, 250000, api.OK},
		{api.Span{Lo: 4, Hi: 4}, 250001, api.ErrLimit},
		{api.Span{Lo: 4, Hi: 5}, 125000, api.OK},
		{api.Span{Lo: 4, Hi: 5}, 125001, api.ErrLimit},
		{api.Span{Lo: 4, Hi: 6}, 83333, api.OK},
		{api.Span{Lo: 4, Hi: 6}, 83334, api.ErrLimit},
		{api.Span{Lo: 4, Hi: api.MaxSize}, 61, api.OK},
		{api.Span{Lo: 4, Hi: api.MaxSize}, 62, api.ErrLimit},
		{api.Span{Lo: 4, Hi: 4}, api.MaxGrains, api.ErrLimit},
		{api.Span{Lo: 4, Hi: 6}, math.MaxInt, api.ErrLimit},
		{api.Span{Lo: 4, Hi: 7}, 1 << 60, api.ErrLimit},
		{api.Span{Lo: 4, Hi: 4}, 0, api.OK},
		{api.Span{Lo: 4, Hi: 4}, -1, api.ErrArg},
		{api.Span{Lo: 4, Hi: 4}, math.MinInt, api.ErrArg},
	} {
		got, e := grain.SackOf(m, []int{0, 1, 2}, x.size, x.each)
		if e != x.want {
			t.Errorf("SackOf %v, %d each: error %d, want %d", x.size, x.each, e, x.want)
		}
		want := []int{0, (x.size.Hi - x.size.Lo + 1) * 4 * x.each, 0}
		if x.want != api.OK {
			want = nil
		}
		wantInts(t, "Least", got.Least, want)
		wantInts(t, "Most", got.Most, want)
	}
	// A mill has an entry for each sector at each turn.
	wide := plain(2, 50, 1, api.Move{Out: 1, Cut: true})
	for each, want := range map[int]api.Errno{400: api.OK, 401: api.ErrLimit} {
		if _, e := grain.SackOf(wide, []int{0}, api.Span{Lo: 1, Hi: 1}, each); e != want {
			t.Errorf("SackOf %d each from 2500 entries: error %d, want %d", each, e, want)
		}
	}
	// No grains fill no sack, however many there would be else.
	none := must[api.Sack](t, "SackOf")(grain.SackOf(plain(1, 96, 1, api.Move{Out: 1}), []int{0, 1}, api.Span{Lo: 1, Hi: api.MaxSize}, 0))
	wantInts(t, "Least of nothing", none.Least, []int{0, 0})
	wantInts(t, "Most of nothing", none.Most, []int{0, 0})
}
