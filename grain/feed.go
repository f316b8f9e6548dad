package grain

import "millrind/api"

// Drawn returns what has fallen behind some knocks, and what is left.
func Drawn(f api.Feed, knocks int) (fed, left int, e api.Errno) {
	if !ValidFeed(f) {
		return 0, 0, api.ErrFeed
	}
	if knocks < 0 || knocks > api.MaxTurns {
		return 0, 0, api.ErrArg
	}
	fed = fallen(f, knocks)
	return fed, f.Hopper - fed, api.OK
}

// Fed returns what falls in some turns.
func Fed(f api.Feed, turns int) (int, api.Errno) {
	if !ValidFeed(f) {
		return 0, api.ErrFeed
	}
	if turns < 0 || turns > api.MaxTurns {
		return 0, api.ErrArg
	}
	return fallen(f, turns*f.Knocks), api.OK
}

// Empty returns the knock behind which the hopper is empty.
func Empty(f api.Feed) (int, api.Errno) {
	if !ValidFeed(f) {
		return 0, api.ErrFeed
	}
	return (f.Hopper + f.Draw - 1) / f.Draw, api.OK
}

// fallen returns how many grains have fallen after so many knocks, at most MaxTurns * MaxTeeth.
func fallen(f api.Feed, knocks int) int { return min(f.Hopper, f.Draw*knocks) }
