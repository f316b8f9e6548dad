package gears

import "millrind/api"

// Stands returns the tooth at which each wheel stands.
func Stands(t api.Train, teeth int) ([]int, api.Errno) {
	if !ValidTrain(t) {
		return nil, api.ErrTrain
	}
	if !isCount(teeth) {
		return nil, api.ErrArg
	}
	turns, e := shafts(t)
	if e != api.OK {
		return nil, e
	}
	var list []int
	for i, m := range t.Meshes {
		list = append(list, stand(m.Driver, turns[i], teeth), stand(m.Driven, turns[i+1], teeth))
	}
	return list, api.OK
}

// Period returns when all wheels stand as at first.
func Period(t api.Train) (int, api.Errno) {
	if !ValidTrain(t) {
		return 0, api.ErrTrain
	}
	turns, e := shafts(t)
	if e != api.OK {
		return 0, e
	}
	period := 1
	for _, r := range turns {
		times := r.Den / gcd(period, r.Den)
		if period > api.MaxClock/times {
			return 0, api.ErrLimit
		}
		period *= times
	}
	return period, api.OK
}

// stand returns at which of its teeth a wheel stands, if its shaft makes so many turns for each of so many teeth of the first driver. (No product here is greater than MaxTurns * MaxHeight * MaxTeeth, less than 2^62.)
func stand(wheel int, turns api.Ratio, teeth int) int {
	return teeth * turns.Num * wheel / turns.Den % wheel
}

// shafts returns the turns of all shafts of a valid train.
func shafts(t api.Train) ([]api.Ratio, api.Errno) {
	var list []api.Ratio
	for shaft := range len(t.Meshes) + 1 {
		turns, e := turnsOf(t, shaft)
		if e != api.OK {
			return nil, e
		}
		list = append(list, turns)
	}
	return list, api.OK
}

// turnsOf returns the turns of a shaft of a valid train for each tooth of the first driver.
func turnsOf(t api.Train, shaft int) (api.Ratio, api.Errno) {
	first := fraction{1, t.Meshes[0].Driver}
	return product(append(wheels(t.Meshes[:shaft]), first)...)
}
