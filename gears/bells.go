package gears

import "millrind/api"

// Runs returns the turns of the runner in a minute.
func Runs(t api.Train, turns, minutes int) (api.Ratio, api.Errno) {
	if !ValidTrain(t) {
		return api.Ratio{}, api.ErrTrain
	}
	if !isCount(turns) || !isFromTo(minutes, 1, api.MaxTurns) {
		return api.Ratio{}, api.ErrArg
	}
	ratio, e := RatioOf(t)
	if e != api.OK {
		return api.Ratio{}, e
	}
	return product(fraction(ratio), fraction{turns, minutes})
}

// Rings returns the knock behind which a bell rings.
func Rings(b api.Bell, f api.Feed) (int, api.Errno) {
	if !isFeed(f) {
		return 0, api.ErrFeed
	}
	if b.Mark < 1 {
		return 0, api.ErrBell
	}
	if f.Hopper < b.Mark {
		return 0, api.OK
	}
	return (f.Hopper-b.Mark)/f.Draw + 1, api.OK
}

// Time returns the turns of the first wheel for some knocks.
func Time(t api.Train, f api.Feed, knocks int) (api.Ratio, api.Errno) {
	if !ValidTrain(t) {
		return api.Ratio{}, api.ErrTrain
	}
	if !isFeed(f) {
		return api.Ratio{}, api.ErrFeed
	}
	if !isCount(knocks) {
		return api.Ratio{}, api.ErrArg
	}
	ratio, e := RatioOf(t)
	if e != api.OK {
		return api.Ratio{}, e
	}
	return product(fraction{knocks, f.Knocks}, fraction{ratio.Den, ratio.Num})
}
