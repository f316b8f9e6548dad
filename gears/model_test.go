package gears_test

import (
	"math/big"
	"math/rand"
	"slices"
	"testing"

	"millrind/api"
	"millrind/gears"
)

// trainOf is a train of meshes.
func trainOf(meshes ...api.Mesh) api.Train { return api.Train{Meshes: meshes} }

func mesh(driver, driven, play int) api.Mesh {
	return api.Mesh{Driver: driver, Driven: driven, Play: play}
}

// example is the train of the chapter's examples.
func example() api.Train { return trainOf(mesh(12, 8, 100), mesh(10, 4, 0)) }

func ratio(num, den int) api.Ratio { return api.Ratio{Num: num, Den: den} }

func fromTo(rng *rand.Rand, from, to int) int { return from + rng.Intn(to-from+1) }

// somePlay is no play, a little, or any.
func somePlay(rng *rand.Rand) int { return rng.Intn([]int{1, 20, api.MaxPlay + 1}[rng.Intn(3)]) }

// smallTrain is a random train of a few small wheels, so that all its teeth can be gone through.
func smallTrain(rng *rand.Rand) api.Train {
	t := api.Train{}
	for range fromTo(rng, 1, 3) {
		t.Meshes = append(t.Meshes, mesh(fromTo(rng, 1, 7), fromTo(rng, 1, 7), somePlay(rng)))
	}
	return t
}

// anyTrain is a random train; some have few wheels of any size, some many small ones or powers of 2, so that in some of them numbers are too large, in some only those of a part.
func anyTrain(rng *rand.Rand) api.Train {
	t := api.Train{}
	most, teeth := 4, func() int { return fromTo(rng, 1, api.MaxTeeth) }
	switch rng.Intn(3) {
	case 0:
		most, teeth = api.MaxWheels, func() int { return fromTo(rng, 1, 6) }
	case 1:
		most, teeth = api.MaxWheels, func() int { return 1 << rng.Intn(13) }
	}
	for range fromTo(rng, 1, most) {
		t.Meshes = append(t.Meshes, mesh(teeth(), teeth(), somePlay(rng)))
	}
	return t
}

func eachTrain(n int, train func(*rand.Rand) api.Train, check func(rng *rand.Rand, t api.Train)) {
	for seed := range n {
		rng := rand.New(rand.NewSource(int64(seed)))
		check(rng, train(rng))
	}
}

// anyRatio is a random ratio; some are 0, small, or as large as may be.
func anyRatio(rng *rand.Rand) api.Ratio {
	most := []int{1, 3, 12, 30000, api.MaxHeight}[rng.Intn(5)]
	x := big.NewRat(int64(rng.Intn(most+1)), int64(fromTo(rng, 1, most)))
	return ratio(int(x.Num().Int64()), int(x.Denom().Int64()))
}

func rat(num, den int) *big.Rat { return big.NewRat(int64(num), int64(den)) }

func ratOf(r api.Ratio) *big.Rat { return rat(r.Num, r.Den) }

func times(x, y *big.Rat) *big.Rat { return new(big.Rat).Mul(x, y) }

func plus(x, y *big.Rat) *big.Rat { return new(big.Rat).Add(x, y) }

func minus(x, y *big.Rat) *big.Rat { return new(big.Rat).Sub(x, y) }

// floor returns the greatest integer that is not greater.
func floor(x *big.Rat) *big.Int { return new(big.Int).Div(x.Num(), x.Denom()) }

func isLarge(x *big.Rat) bool {
	most := big.NewInt(1000000000)
	return x.Num().Cmp(most) > 0 || x.Denom().Cmp(most) > 0
}

// modelRatio returns a number as a ratio, or that it is too large.
func modelRatio(x *big.Rat) (api.Ratio, api.Errno) {
	if isLarge(x) {
		return api.Ratio{}, api.ErrLimit
	}
	return ratio(int(x.Num().Int64()), int(x.Denom().Int64())), api.OK
}

// modelRatioOf multiplies the meshes of a train, one after the other.
func modelRatioOf(t api.Train) *big.Rat {
	x := rat(1, 1)
	for _, m := range t.Meshes {
		x = times(x, rat(m.Driver, m.Driven))
	}
	return x
}

// modelTurns returns the turns of each shaft, in the chapter's words.
func modelTurns(t api.Train) []*big.Rat {
	list := []*big.Rat{rat(1, t.Meshes[0].Driver)}
	for i, m := range t.Meshes {
		list = append(list, times(list[i], rat(m.Driver, m.Driven)))
	}
	return list
}

func modelStand(wheel int, turns *big.Rat, teeth int) int {
	n := floor(times(times(rat(teeth, 1), turns), rat(wheel, 1)))
	return int(n.Mod(n, big.NewInt(int64(wheel))).Int64())
}

// modelPlay takes the chapter's steps.
func modelPlay(t api.Train) (*big.Rat, api.Errno) {
	x := rat(0, 1)
	for _, m := range t.Meshes {
		x = times(x, rat(m.Driver, m.Driven))
		if isLarge(x) {
			return nil, api.ErrLimit
		}
		x = plus(x, rat(m.Play, 1000*m.Driven))
		if isLarge(x) {
			return nil, api.ErrLimit
		}
	}
	return x, api.OK
}

// modelWhere returns where a runner stands that has made so many turns, and may lag by a play.
func modelWhere(turns, play *big.Rat, sectors int) api.Span {
	low, high := floor(times(minus(turns, play), rat(sectors, 1))), floor(times(turns, rat(sectors, 1)))
	return api.Span{Lo: int(low.Int64()), Hi: int(high.Int64())}
}

// modelAll goes through a period of a train.
func modelAll(t api.Train, sectors, period int) []int {
	turns := modelTurns(t)[len(t.Meshes)]
	play, _ := modelPlay(t)
	seen := make([]bool, sectors)
	for teeth := range period {
		x := modelWhere(times(rat(teeth, 1), turns), play, sectors)
		for n := x.Lo; n <= min(x.Hi, x.Lo+sectors); n++ {
			seen[(n%sectors+sectors)%sectors] = true
		}
	}
	var all []int
	for n, is := range seen {
		if is {
			all = append(all, n)
		}
	}
	return all
}

// where returns what Where does, which must have no error.
func where(t *testing.T, x api.Train, sectors, teeth int) api.Span {
	t.Helper()
	return must[api.Span](t, "Where")(gears.Where(x, sectors, teeth))
}

// must returns the result of a call, which must have no error.
func must[T any](t *testing.T, what string) func(T, api.Errno) T {
	return func(v T, e api.Errno) T {
		t.Helper()
		if e != api.OK {
			t.Fatalf("%s: error %d", what, e)
		}
		return v
	}
}

func want[T comparable](t *testing.T, what string, got, want T) {
	t.Helper()
	if got != want {
		t.Errorf("%s: got %v, want %v", what, got, want)
	}
}

func wantList[T comparable](t *testing.T, what string, got, want []T) {
	t.Helper()
	if !slices.Equal(got, want) {
		t.Errorf("%s: got %v, want %v", what, got, want)
	}
}

func wantError(t *testing.T, what string, got, want api.Errno) {
	t.Helper()
	if got != want {
		t.Errorf("%s: error %d, want %d", what, got, want)
	}
}

// wantBoth checks a result and an error.
func wantBoth[T comparable](t *testing.T, what string, got T, e api.Errno, expected T, fault api.Errno) {
	t.Helper()
	wantError(t, what, e, fault)
	want(t, what, got, expected)
}
