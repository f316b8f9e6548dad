package truth

import (
	"iter"

	"millrind/api"
)

// maxWay is the greatest coordinate of a way.
const maxWay = 100

// Reach returns how far the moment may go in a direction.
func Reach(s api.Stone, way api.Point) (api.Span, api.Errno) {
	r, e := rotorOf(s)
	if e != api.OK {
		return api.Span{}, e
	}
	if !isWay(way) {
		return api.Span{}, api.ErrArg
	}
	return r.reach(r.room, point(way)), api.OK
}

// Apart returns a direction in which the moment is too great with any lead.
func Apart(s api.Stone) (api.Point, api.Errno) {
	r, e := rotorOf(s)
	if e != api.OK {
		return api.Point{}, e
	}
	if way, is := r.apart(r.room, 2*maxWay); is {
		return api.Point(way), api.OK
	}
	return api.Point{}, api.ErrNone
}

func isWay(p api.Point) bool { return p != api.Point{} && point(p).isWithin(maxWay) }

// ways yields all ways up to a size: those of the least size first, of these the ones with the least X, of these those with the least Y.
func ways(most int) iter.Seq[point] {
	return func(yield func(point) bool) {
		for size := 1; size <= most; size++ {
			for x := -min(size, maxWay); x <= min(size, maxWay); x++ {
				y := size - max(x, -x)
				if y > maxWay {
					continue
				}
				if !yield(point{x, -y}) || y > 0 && !yield(point{x, y}) {
					return
				}
			}
		}
	}
}

// apart returns the first way up to a size in which a rotor is apart with each lead of a box, and false if there is none.
func (r rotor) apart(b box, most int) (point, bool) {
	for way := range ways(most) {
		if r.isApart(b, way) {
			return way, true
		}
	}
	return point{}, false
}
