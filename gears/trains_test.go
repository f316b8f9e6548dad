package gears_test

import (
	"math"
	"math/big"
	"math/rand"
	"slices"
	"testing"

	"millrind/api"
	"millrind/gears"
)

// P7.1, W6: 1 to 16 meshes, each of them valid.
func TestValidTrain(t *testing.T) {
	for _, x := range []api.Train{
		example(), trainOf(mesh(1, 1, 0)), trainOf(mesh(4096, 4096, 1000)), trainOf(mesh(1, 4096, 1000), mesh(4096, 1, 0)),
		{Meshes: slices.Repeat([]api.Mesh{mesh(4096, 1, 1000)}, 16)},
	} {
		want(t, "ValidTrain", gears.ValidTrain(x), true)
	}
	for _, x := range wrongTrains() {
		want(t, "ValidTrain of none", gears.ValidTrain(x), false)
	}
}

// wrongTrains are trains that are none.
func wrongTrains() []api.Train {
	list := []api.Train{{}, {Meshes: []api.Mesh{}}, {Meshes: slices.Repeat([]api.Mesh{mesh(1, 1, 0)}, 17)}}
	for _, m := range wrongMeshes() {
		list = append(list, trainOf(m), trainOf(m, mesh(12, 8, 0)), trainOf(mesh(12, 8, 0), mesh(10, 4, 0), m))
	}
	return list
}

// P7.1, W7, W11, W12: the chapter's examples, and example 7 of the document.
func TestTrainExamples(t *testing.T) {
	want(t, "RatioOf", must[api.Ratio](t, "RatioOf")(gears.RatioOf(example())), ratio(15, 4))
	wantList(t, "Stands", must[[]int](t, "Stands")(gears.Stands(example(), 9)), []int{9, 1, 1, 3})
	want(t, "Period", must[int](t, "Period")(gears.Period(example())), 48)
	want(t, "RatioOf", must[api.Ratio](t, "RatioOf")(gears.RatioOf(trainOf(mesh(8, 12, 0)))), ratio(2, 3))
}

// P7.1, W7: only the lowest terms of the whole product may be too large.
func TestRatioOf(t *testing.T) {
	up, down := mesh(4096, 1, 0), mesh(1, 4096, 0)
	for _, x := range []struct {
		train api.Train
		want  api.Ratio
		e     api.Errno
	}{
		{api.Train{Meshes: slices.Repeat([]api.Mesh{up, down}, 8)}, ratio(1, 1), api.OK},
		{api.Train{Meshes: slices.Concat(slices.Repeat([]api.Mesh{up}, 8), slices.Repeat([]api.Mesh{down}, 8))}, ratio(1, 1), api.OK},
		{api.Train{Meshes: slices.Concat(slices.Repeat([]api.Mesh{down}, 9), slices.Repeat([]api.Mesh{up}, 7))}, ratio(1, 4096*4096), api.OK},
		{api.Train{Meshes: slices.Repeat([]api.Mesh{mesh(4096, 4095, 1)}, 2)}, ratio(4096*4096, 4095*4095), api.OK},
		{api.Train{Meshes: slices.Repeat([]api.Mesh{mesh(4096, 4095, 1)}, 3)}, api.Ratio{}, api.ErrLimit},
		{api.Train{Meshes: slices.Repeat([]api.Mesh{up}, 16)}, api.Ratio{}, api.ErrLimit},
		{api.Train{Meshes: slices.Repeat([]api.Mesh{down}, 16)}, api.Ratio{}, api.ErrLimit},
		{trainOf(mesh(1000, 1, 0), mesh(1000, 1, 0), mesh(1000, 1, 0)), ratio(1000000000, 1), api.OK},
		{trainOf(mesh(1000, 1, 0), mesh(1000, 1, 0), mesh(1001, 1, 0)), api.Ratio{}, api.ErrLimit},
		{trainOf(mesh(1, 1000, 0), mesh(1, 1000, 0), mesh(1, 1000, 0)), ratio(1, 1000000000), api.OK},
		{trainOf(mesh(1, 1000, 0), mesh(1, 1000, 0), mesh(1, 1001, 0)), api.Ratio{}, api.ErrLimit},
		{trainOf(mesh(1, 64, 0), mesh(1, 64, 0), mesh(1, 4096, 0), mesh(1, 4096, 0)), api.Ratio{}, api.ErrLimit},
		{api.Train{Meshes: slices.Repeat([]api.Mesh{mesh(64, 1, 0)}, 11)}, api.Ratio{}, api.ErrLimit},
	} {
		r, e := gears.RatioOf(x.train)
		wantBoth(t, "RatioOf", r, e, x.want, x.e)
	}
	eachTrain(2000, anyTrain, func(rng *rand.Rand, x api.Train) {
		r, e := gears.RatioOf(x)
		expected, fault := modelRatio(modelRatioOf(x))
		wantBoth(t, "RatioOf", r, e, expected, fault)
		want(t, "ValidTrain", gears.ValidTrain(x), true)
	})
}

// turned is a train with all meshes in the opposite order, each the other way round.
func turned(x api.Train) api.Train {
	var list []api.Mesh
	for _, m := range slices.Backward(x.Meshes) {
		list = append(list, mesh(m.Driven, m.Driver, m.Play))
	}
	return api.Train{Meshes: list}
}

// P7.3: one train behind the other, and a train turned round.
func TestTrainsTogether(t *testing.T) {
	held := 0
	eachTrain(2000, anyTrain, func(rng *rand.Rand, x api.Train) {
		a, e := gears.RatioOf(x)
		back, f := gears.RatioOf(turned(x))
		wantError(t, "RatioOf of the train turned round", f, e)
		if e != api.OK {
			return
		}
		want(t, "both ways", must[api.Ratio](t, "Times")(gears.Times(a, back)), ratio(1, 1))
		y := anyTrain(rng)
		b, e := gears.RatioOf(y)
		both, f := gears.RatioOf(api.Train{Meshes: slices.Concat(x.Meshes, y.Meshes)})
		if e != api.OK || f == api.ErrTrain {
			return
		}
		held++
		expected, e := gears.Times(a, b)
		wantBoth(t, "RatioOf of both", both, f, expected, e)
	})
	want(t, "many trains have been laid together", held > 100, true)
}

// modelStands returns where all wheels stand, or that turns of a shaft are too large.
func modelStands(x api.Train, teeth int) ([]int, api.Errno) {
	turns := modelTurns(x)
	if slices.ContainsFunc(turns, isLarge) {
		return nil, api.ErrLimit
	}
	var list []int
	for i, m := range x.Meshes {
		list = append(list, modelStand(m.Driver, turns[i], teeth), modelStand(m.Driven, turns[i+1], teeth))
	}
	return list, api.OK
}

// P7.1, W11: trains of all kinds against reckoning without bounds.
func TestStands(t *testing.T) {
	check := func(rng *rand.Rand, x api.Train) {
		for _, teeth := range []int{0, 1, rng.Intn(50), rng.Intn(api.MaxTurns), 999999, 1000000} {
			list, e := gears.Stands(x, teeth)
			expected, fault := modelStands(x, teeth)
			wantError(t, "Stands", e, fault)
			wantList(t, "Stands", list, expected)
		}
	}
	eachTrain(500, smallTrain, check)
	eachTrain(500, anyTrain, check)
	large := trainOf(mesh(4096, 1, 0), mesh(1000, 1, 0), mesh(1000, 1, 0), mesh(1000, 4096, 0))
	check(rand.New(rand.NewSource(5)), large)
	large.Meshes[3] = mesh(999, 4095, 0)
	check(rand.New(rand.NewSource(6)), large)
}

// slowPeriod goes on tooth by tooth until all shafts have made whole turns.
func slowPeriod(x api.Train) int {
	turns := modelTurns(x)
	for teeth := 1; ; teeth++ {
		whole := true
		for _, r := range turns {
			whole = whole && teeth*int(r.Num().Int64())%int(r.Denom().Int64()) == 0
		}
		if whole {
			return teeth
		}
	}
}

// P7.1, W12, P7.5: the least number of teeth with whole turns; behind it all wheels stand as before.
func TestPeriod(t *testing.T) {
	eachTrain(300, smallTrain, func(rng *rand.Rand, x api.Train) {
		period := must[int](t, "Period")(gears.Period(x))
		want(t, "Period", period, slowPeriod(x))
		for range 5 {
			teeth := rng.Intn(2 * period)
			before := must[[]int](t, "Stands")(gears.Stands(x, teeth))
			wantList(t, "Stands after Period teeth more", must[[]int](t, "Stands")(gears.Stands(x, teeth+period)), before)
		}
		wantList(t, "Stands after Period teeth", must[[]int](t, "Stands")(gears.Stands(x, period)), make([]int, 2*len(x.Meshes)))
	})
}

// chain is a train whose shafts have 1 over the numbers of a list as their turns.
func chain(wheels ...int) api.Train {
	t := api.Train{}
	for i, n := range wheels[1:] {
		t.Meshes = append(t.Meshes, mesh(wheels[i], n, 0))
	}
	return t
}

// modelPeriod is the least common multiple of all denominators, or that one of them or the period is too large.
func modelPeriod(x api.Train) (int, api.Errno) {
	period := big.NewInt(1)
	for _, r := range modelTurns(x) {
		if isLarge(r) {
			return 0, api.ErrLimit
		}
		common := new(big.Int).GCD(nil, nil, period, r.Denom())
		period.Mul(period, new(big.Int).Div(r.Denom(), common))
	}
	if period.Cmp(big.NewInt(1<<40)) > 0 {
		return 0, api.ErrLimit
	}
	return int(period.Int64()), api.OK
}

// P7.1, W12: the ends of what may be: turns of all shafts whose lowest terms are not too large, and a period of at most 2^40.
func TestLargePeriods(t *testing.T) {
	for _, x := range []struct {
		train api.Train
		want  int
		e     api.Errno
	}{
		{chain(1, 1), 1, api.OK},
		{chain(4096, 4096, 4096), 4096, api.OK},
		{trainOf(mesh(4096, 1, 0), mesh(4096, 1, 0)), 4096, api.OK},
		{chain(4096, 4095), 4096 * 4095, api.OK},
		{chain(4096, 4095, 4093, 16), 4096 * 4095 * 4093, api.OK},
		{chain(4033, 1971, 3952, 35), 1<<40 - 16, api.OK},
		{chain(2401, 2273, 3007, 67), 0, api.ErrLimit},
		{chain(4096, 4095, 4093, 4091), 0, api.ErrLimit},
		{chain(4096, 4095, 4093, 4091, 4087, 4079, 4073, 4057, 4051, 4049), 0, api.ErrLimit},
		{trainOf(mesh(1, 1000, 0), mesh(1, 1000, 0), mesh(1, 1000, 0)), 1000000000, api.OK},
		{trainOf(mesh(7, 1000, 0), mesh(1, 1000, 0), mesh(1, 1000, 0)), 7000000000, api.OK},
		{trainOf(mesh(1103, 1000, 0), mesh(1, 1000, 0), mesh(1, 1000, 0)), 0, api.ErrLimit},
		{trainOf(mesh(1, 1000, 0), mesh(1, 1000, 0), mesh(1, 1001, 0)), 0, api.ErrLimit},
		{trainOf(mesh(1, 1000, 0), mesh(1, 1000, 0), mesh(1, 1001, 0), mesh(1001, 1, 0)), 0, api.ErrLimit},
		{trainOf(mesh(1, 1, 0), mesh(1000, 1, 0), mesh(1000, 1, 0), mesh(1000, 1, 0)), 1, api.OK},
		{trainOf(mesh(1, 1, 0), mesh(1000, 1, 0), mesh(1000, 1, 0), mesh(1001, 1, 0), mesh(1, 1001, 0)), 0, api.ErrLimit},
	} {
		n, e := gears.Period(x.train)
		wantBoth(t, "Period", n, e, x.want, x.e)
	}
	eachTrain(2000, anyTrain, func(rng *rand.Rand, x api.Train) {
		n, e := gears.Period(x)
		expected, fault := modelPeriod(x)
		wantBoth(t, "Period", n, e, expected, fault)
	})
}

// P7.5: of the first mesh Stands tells the numbers of teeth modulo Driver and modulo Driven.
func TestFirstMesh(t *testing.T) {
	held := 0
	eachTrain(1000, anyTrain, func(rng *rand.Rand, x api.Train) {
		teeth := rng.Intn(api.MaxTurns + 1)
		if list, e := gears.Stands(x, teeth); e == api.OK {
			held++
			wantList(t, "the first mesh", list[:2], []int{teeth % x.Meshes[0].Driver, teeth % x.Meshes[0].Driven})
			want(t, "two numbers for each mesh", len(list), 2*len(x.Meshes))
		}
	})
	want(t, "many trains have been asked", held > 300, true)
}

// P7.1, Errors: of RatioOf, Stands and Period: ErrTrain first, then ErrArg, then ErrLimit.
func TestTrainErrors(t *testing.T) {
	for _, x := range wrongTrains() {
		r, e := gears.RatioOf(x)
		wantBoth(t, "RatioOf", r, e, api.Ratio{}, api.ErrTrain)
		n, e := gears.Period(x)
		wantBoth(t, "Period", n, e, 0, api.ErrTrain)
		for _, teeth := range []int{0, -1, 1000001} {
			list, e := gears.Stands(x, teeth)
			wantError(t, "Stands", e, api.ErrTrain)
			want(t, "Stands with an error", len(list), 0)
		}
	}
	for _, x := range []api.Train{example(), {Meshes: slices.Repeat([]api.Mesh{mesh(1, 4096, 0)}, 3)}} {
		for _, teeth := range []int{-1, 1000001, math.MinInt, math.MaxInt} {
			list, e := gears.Stands(x, teeth)
			wantError(t, "Stands", e, api.ErrArg)
			want(t, "Stands with an error", len(list), 0)
		}
	}
	for _, x := range []api.Train{
		{Meshes: slices.Repeat([]api.Mesh{mesh(1, 4096, 0)}, 3)},
		{Meshes: slices.Concat(slices.Repeat([]api.Mesh{mesh(1, 4096, 0)}, 3), slices.Repeat([]api.Mesh{mesh(4096, 1, 0)}, 3))},
		{Meshes: slices.Repeat([]api.Mesh{mesh(4096, 1, 0)}, 4)},
	} {
		list, e := gears.Stands(x, 0)
		wantError(t, "Stands", e, api.ErrLimit)
		want(t, "Stands with an error", len(list), 0)
		n, e := gears.Period(x)
		wantBoth(t, "Period", n, e, 0, api.ErrLimit)
	}
}
