package dressing

import "millrind/api"

// Prove returns prices that prove how many strokes are needed.
func Prove(t api.Task) (api.Prices, int, api.Errno) {
	g, e := possible(t)
	if e != api.OK {
		return api.Prices{}, 0, e
	}
	// The walk crosses from each first cell to the next one once more than back, so no gain is greater than 1.
	end := firstCells(t)
	return pay(len(t.Need), g.last, end, 0), g.least[end], api.OK
}

// CheckPrices returns how many strokes prices prove.
func CheckPrices(t api.Task, x api.Prices) (int, api.Errno) {
	if e := Check(t); e != api.OK {
		return 0, e
	}
	if !arePrices(t, x) || !gainAtMost(t, x, 1) {
		return 0, api.ErrPrices
	}
	return value(t, x), api.OK
}

// Never returns prices that prove that no strokes do a task.
func Never(t api.Task) (api.Prices, api.Errno) {
	if e := Check(t); e != api.OK {
		return api.Prices{}, e
	}
	g := graphOf(t)
	at := g.settle()
	if at == none {
		return api.Prices{}, api.ErrNone
	}
	return pay(len(t.Need), g.last, at, at), api.OK
}

// CheckNever returns OK if prices prove that no strokes do a task.
func CheckNever(t api.Task, x api.Prices) api.Errno {
	if e := Check(t); e != api.OK {
		return e
	}
	if !arePrices(t, x) || !gainAtMost(t, x, 0) || value(t, x) <= 0 {
		return api.ErrPrices
	}
	return api.OK
}

func arePrices(t api.Task, x api.Prices) bool {
	return len(x.Low) == len(t.Need) && len(x.High) == len(t.Need) && allWithin(x.Low, api.MaxStrokes) && allWithin(x.High, api.MaxStrokes)
}

// gainAtMost reports whether no first cell gains more than a number.
func gainAtMost(t api.Task, x api.Prices, most int) bool {
	low, high := sums(x.Low), sums(x.High)
	for k := range firstCells(t) {
		end := k + t.Wide
		if low[end]-low[k]-(high[end]-high[k]) > most {
			return false
		}
	}
	return true
}

func value(t api.Task, x api.Prices) int {
	sum := 0
	for i, need := range t.Need {
		sum += need.Lo*x.Low[i] - need.Hi*x.High[i]
	}
	return sum
}
