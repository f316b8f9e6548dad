package truth

import (
	"millrind/api"
	"millrind/stones"
)

// rotor is what balance asks of a valid stone: its moment without lead, what a unit of lead in each pocket adds, and the box of all leads. Pockets that the stone does not have hold nothing.
type rotor struct {
	bare    point
	arms    [api.MaxPockets]point
	room    box
	pockets int
	tol     int
}

// rotorOf returns the rotor of a stone; ErrStone, if the stone is not valid.
func rotorOf(s api.Stone) (rotor, api.Errno) {
	if e := Check(s); e != api.OK {
		return rotor{}, e
	}
	r := rotor{bare: bareMoment(s), pockets: len(s.Pockets), tol: s.Tol}
	for i, p := range s.Pockets {
		r.arms[i] = point(p.Arm)
		r.room[i].Hi = p.Most
	}
	return r, api.OK
}

// bareMoment returns the moment of a valid stone without lead.
func bareMoment(s api.Stone) point {
	sum := point{}
	for ring := range s.Face.Rings {
		weight, _ := stones.Weight(s.Face, ring)
		lever := s.Face.Eye + ring + 1
		for sector, way := range s.Compass {
			height := s.Heights[ring*s.Face.Sectors+sector]
			sum = sum.plus(point(way).times(weight * height * lever))
		}
	}
	return sum
}

// moment returns the moment with a lead.
func (r rotor) moment(l lead) point {
	sum := r.bare
	for i, n := range l {
		sum = sum.plus(r.arms[i].times(n))
	}
	return sum
}

// leadOf returns a list as a lead, and false if it is none.
func (r rotor) leadOf(list []int) (lead, bool) {
	if len(list) != r.pockets {
		return lead{}, false
	}
	var l lead
	for i, n := range list {
		if !isFromTo(n, r.room[i].Lo, r.room[i].Hi) {
			return lead{}, false
		}
		l[i] = n
	}
	return l, true
}

// reach returns the least and the greatest number that the moment goes by a way, with the leads of a box.
func (r rotor) reach(b box, way point) api.Span {
	from := r.bare.by(way)
	x := api.Span{Lo: from, Hi: from}
	for i, arm := range r.arms {
		n := arm.by(way)
		x.Lo += min(n*b[i].Lo, n*b[i].Hi)
		x.Hi += max(n*b[i].Lo, n*b[i].Hi)
	}
	return x
}

// isApart reports whether the moment goes by a way too far with each lead of a box.
func (r rotor) isApart(b box, way point) bool {
	return r.reach(b, way).Lo > r.tol*way.size()
}
