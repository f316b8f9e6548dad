package gears

import "millrind/api"

// thousandths is how many parts of a tooth the play of a mesh is counted in.
const thousandths = 1000

// Play returns the play of the last wheel in a turn.
func Play(t api.Train) (api.Ratio, api.Errno) {
	if !ValidTrain(t) {
		return api.Ratio{}, api.ErrTrain
	}
	play, e := api.Ratio{Num: 0, Den: 1}, api.OK
	for _, m := range t.Meshes {
		if play, e = behind(m, play); e != api.OK {
			return api.Ratio{}, e
		}
	}
	return play, api.OK
}

// behind returns the play of the driven wheel's shaft, if the driver's shaft has so much.
func behind(m api.Mesh, play api.Ratio) (api.Ratio, api.Errno) {
	carried, e := product(fraction(play), fraction{m.Driver, m.Driven})
	if e != api.OK {
		return api.Ratio{}, e
	}
	own, e := Reduce(m.Play, thousandths*m.Driven)
	if e != api.OK {
		return api.Ratio{}, e
	}
	return Plus(carried, own)
}

// Where returns the sectors at which the runner may stand.
func Where(t api.Train, sectors, teeth int) (api.Span, api.Errno) {
	r, e := runnerOf(t, sectors, teeth)
	if e != api.OK {
		return api.Span{}, e
	}
	parts := teeth * r.turns.Num
	return api.Span{Lo: r.hindmost(parts), Hi: r.foremost(parts)}, api.OK
}

// All returns all sectors at which it ever may stand.
func All(t api.Train, sectors int) ([]int, api.Errno) {
	r, e := runnerOf(t, sectors, 0)
	if e != api.OK {
		return nil, e
	}
	return chosen(sectors, r.mayStandAt), api.OK
}

// chosen returns the numbers below n for which is reports true.
func chosen(n int, is func(int) bool) []int {
	var list []int
	for i := range n {
		if is(i) {
			list = append(list, i)
		}
	}
	return list
}
