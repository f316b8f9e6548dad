package truth

import "millrind/api"

// point is a vector that can be reckoned with.
type point api.Point

func (p point) plus(q point) point { return point{p.X + q.X, p.Y + q.Y} }

func (p point) times(n int) point { return point{n * p.X, n * p.Y} }

// by returns how far a point goes by a way.
func (p point) by(way point) int { return way.X*p.X + way.Y*p.Y }

// size returns the absolute values of both coordinates together.
func (p point) size() int { return max(p.X, -p.X) + max(p.Y, -p.Y) }

// isWithin reports whether both coordinates are from -most to most.
func (p point) isWithin(most int) bool {
	return isFromTo(p.X, -most, most) && isFromTo(p.Y, -most, most)
}
