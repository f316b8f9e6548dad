package gears

import "millrind/api"

// Hunting reports whether each tooth meets each cog.
func Hunting(m api.Mesh) (bool, api.Errno) {
	if !isMesh(m) {
		return false, api.ErrTrain
	}
	return gcd(m.Driver, m.Driven) == 1, api.OK
}

// Grips returns how many pairs of teeth ever meet.
func Grips(m api.Mesh) (int, api.Errno) {
	if !isMesh(m) {
		return 0, api.ErrTrain
	}
	return m.Driver / gcd(m.Driver, m.Driven) * m.Driven, api.OK
}

// Meets returns when a tooth meets a cog first.
func Meets(m api.Mesh, tooth, cog int) (int, api.Errno) {
	if !isMesh(m) {
		return 0, api.ErrTrain
	}
	if !isFromTo(tooth, 0, m.Driver-1) || !isFromTo(cog, 0, m.Driven-1) {
		return 0, api.ErrArg
	}
	if (tooth-cog)%gcd(m.Driver, m.Driven) != 0 {
		return 0, api.ErrNone
	}
	steps := tooth
turn:
	if steps%m.Driven != cog {
		steps += m.Driver
		goto turn
	}
	return steps, api.OK
}
