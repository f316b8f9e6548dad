package truth_test

import (
	"math/rand"
	"slices"
	"testing"

	"millrind/api"
	"millrind/stones"
	"millrind/truth"
)

// twoStones are a random face with random heights of both stones.
func twoStones(rng *rand.Rand, rings, sectors, most int) (f api.Face, bed, runner []int) {
	f = api.Face{Eye: 1, Rings: rings, Sectors: sectors}
	for range rings * sectors {
		f.Kinds = append(f.Kinds, rng.Intn(3))
		bed, runner = append(bed, around(rng, most)), append(runner, around(rng, most))
	}
	return f, bed, runner
}

func eachTwoStones(n int, check func(rng *rand.Rand, f api.Face, bed, runner []int)) {
	for seed := range n {
		rng := rand.New(rand.NewSource(int64(seed)))
		f, bed, runner := twoStones(rng, 1+rng.Intn(3), 2+rng.Intn(5), 20)
		check(rng, f, bed, runner)
	}
}

// P6.1, T14 to T17: the examples of the chapter.
func TestExampleGaps(t *testing.T) {
	s := example(3)
	wantList(t, "Gaps", must[[]int](t, "Gaps")(truth.Gaps(s.Face, s.Heights, s.Heights, 5, 1)), []int{1, 1, 3, 3})
	wantList(t, "Closest", must[[]int](t, "Closest")(truth.Closest(s.Face, s.Heights, s.Heights, 5)), []int{-1, 1, 1, 1})
	wantList(t, "Rubs", must[[]int](t, "Rubs")(truth.Rubs(s.Face, s.Heights, s.Heights, 5)), []int{0})
	want(t, "Lift", must[int](t, "Lift")(truth.Lift(s.Face, s.Heights, s.Heights, 1)), 7)
}

// P6.1, T14: the runner's cells come round in the sense of the turn, each ring for itself; what lies above a cell is what turning the face brings there.
func TestGapsOfTurns(t *testing.T) {
	f := api.Face{Eye: 1, Rings: 2, Sectors: 3, Kinds: []int{0, 1, 2, 1, 2, 0}}
	bed, runner := []int{0, 0, 0, 0, 0, 7}, []int{0, 1, 2, 1, 2, 0}
	for turn, gaps := range [][]int{{10, 9, 8, 9, 8, 3}, {8, 10, 9, 10, 9, 1}, {9, 8, 10, 8, 10, 2}} {
		wantList(t, "Gaps", must[[]int](t, "Gaps")(truth.Gaps(f, bed, runner, 10, turn)), gaps)
		turned := must[api.Face](t, "Turn")(stones.Turn(f, turn))
		for i, kind := range turned.Kinds {
			want(t, "the gap below a turned cell", gaps[i], 10-bed[i]-kind)
		}
	}
	wantList(t, "Closest", must[[]int](t, "Closest")(truth.Closest(f, bed, runner, 10)), []int{8, 8, 8, 8, 8, 1})
	wantList(t, "Rubs", must[[]int](t, "Rubs")(truth.Rubs(f, bed, runner, 2)), []int{0, 1, 2, 3, 4, 5})
	wantList(t, "Rubs", must[[]int](t, "Rubs")(truth.Rubs(f, bed, runner, 3)), []int{5})
	wantList(t, "Rubs", must[[]int](t, "Rubs")(truth.Rubs(f, bed, runner, 9)), []int{5})
	wantList(t, "Rubs", must[[]int](t, "Rubs")(truth.Rubs(f, bed, runner, 10)), nil)
}

// P6.1, P6.6, T14 to T16: gaps are as the chapter says, Closest is the least of them over all turns, and Rubs tells where that is less than 1.
func TestGapsOfStones(t *testing.T) {
	eachTwoStones(300, func(rng *rand.Rand, f api.Face, bed, runner []int) {
		lift := rng.Intn(40)
		closest := gapsOf(f, bed, runner, lift, 0)
		for turn := range f.Sectors {
			gaps := must[[]int](t, "Gaps")(truth.Gaps(f, bed, runner, lift, turn))
			wantList(t, "Gaps", gaps, gapsOf(f, bed, runner, lift, turn))
			for i, n := range gaps {
				closest[i] = min(closest[i], n)
			}
		}
		wantList(t, "Closest", must[[]int](t, "Closest")(truth.Closest(f, bed, runner, lift)), closest)
		var rubs []int
		for i, n := range closest {
			if n < 1 {
				rubs = append(rubs, i)
			}
		}
		wantList(t, "Rubs", must[[]int](t, "Rubs")(truth.Rubs(f, bed, runner, lift)), rubs)
	})
}

// P6.6, T17: with the lift for 1 nothing rubs, and with one less something does; for other numbers all gaps are at least so wide, and with one less some is not.
func TestLiftsOfStones(t *testing.T) {
	zero := 0
	eachTwoStones(300, func(rng *rand.Rand, f api.Face, bed, runner []int) {
		for _, least := range []int{1, 0, around(rng, 60)} {
			n := must[int](t, "Lift")(truth.Lift(f, bed, runner, least))
			if wide := slices.Min(must[[]int](t, "Closest")(truth.Closest(f, bed, runner, n))); wide < least || n > 0 && wide > least {
				t.Errorf("with the lift %d for %d the least gap is %d", n, least, wide)
			}
			if n == 0 {
				zero++
			} else if least == 1 {
				rubs := must[[]int](t, "Rubs")(truth.Rubs(f, bed, runner, n-1))
				want(t, "something rubs", len(rubs) > 0, true)
			}
		}
		n := must[int](t, "Lift")(truth.Lift(f, bed, runner, 1))
		wantList(t, "Rubs", must[[]int](t, "Rubs")(truth.Rubs(f, bed, runner, n)), nil)
	})
	if zero < 10 {
		t.Errorf("only %d lifts are 0", zero)
	}
}

// P6.6: a higher lift makes all gaps wider by as much.
func TestHigherLifts(t *testing.T) {
	eachTwoStones(100, func(rng *rand.Rand, f api.Face, bed, runner []int) {
		lift, more, turn := rng.Intn(100), rng.Intn(1000), rng.Intn(f.Sectors)
		gaps := must[[]int](t, "Gaps")(truth.Gaps(f, bed, runner, lift, turn))
		for i, n := range must[[]int](t, "Gaps")(truth.Gaps(f, bed, runner, lift+more, turn)) {
			want(t, "the gap with a higher lift", n, gaps[i]+more)
		}
	})
}

// P6.1, T14 to T17, R5: the greatest stones, heights and lifts; a lift may be more than MaxHeight.
func TestGreatestGaps(t *testing.T) {
	f, bed, runner := twoStones(rand.New(rand.NewSource(24)), 24, 96, 100000)
	bed[100], runner[100], runner[191] = 100000, 100000, -100000
	closest := must[[]int](t, "Closest")(truth.Closest(f, bed, runner, 1000000000))
	want(t, "Closest", closest[100], 999800000)
	least := slices.Clone(closest)
	for turn := range 96 {
		for i, n := range gapsOf(f, bed, runner, 1000000000, turn) {
			least[i] = min(least[i], n)
		}
	}
	wantList(t, "Closest", closest, least)
	want(t, "Lift", must[int](t, "Lift")(truth.Lift(f, bed, runner, 1000000000)), 1000200000)
	want(t, "Lift", must[int](t, "Lift")(truth.Lift(f, bed, runner, -200000)), 0)
	want(t, "Lift", must[int](t, "Lift")(truth.Lift(f, bed, runner, -199999)), 1)
	want(t, "Lift", must[int](t, "Lift")(truth.Lift(f, bed, runner, -1000000000)), 0)
}
