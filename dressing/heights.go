package dressing

import "millrind/api"

// Need returns how many strokes a cell needs.
func Need(h, aim, deep api.Span) (api.Span, api.Errno) {
	if !isHeight(h) || !isHeight(aim) || !isDepth(deep) {
		return api.Span{}, api.ErrArg
	}
	enough := api.Span{Lo: quotient(h.Hi-aim.Hi+deep.Lo-1, deep.Lo), Hi: api.MaxStrokes}
	notTooMany := api.Span{Lo: 0, Hi: quotient(h.Lo-aim.Lo, deep.Hi)}
	need := common(enough, notTooMany, api.Span{Lo: 0, Hi: api.MaxStrokes})
	if need.Lo > need.Hi {
		return api.Span{}, api.ErrStroke
	}
	return need, api.OK
}

// Falls returns the bounds of a height behind strokes.
func Falls(h, deep api.Span, strokes int) (api.Span, api.Errno) {
	if !isHeight(h) || !isDepth(deep) || strokes < 0 || strokes > api.MaxStrokes {
		return api.Span{}, api.ErrArg
	}
	return api.Span{Lo: h.Lo - strokes*deep.Hi, Hi: h.Hi - strokes*deep.Lo}, api.OK
}

func isHeight(x api.Span) bool { return inOrder(x, -api.MaxHeight, api.MaxHeight) }

func isDepth(x api.Span) bool { return inOrder(x, 1, api.MaxHeight) }

// quotient returns the greatest whole number that is not above n divided by a number, also where that is below 0.
func quotient(n, by int) int {
	if n < 0 {
		return -((by - 1 - n) / by)
	}
	return n / by
}

// common returns what is in all spans; its least number is greater than its greatest one if nothing is.
func common(first api.Span, others ...api.Span) api.Span {
	for _, x := range others {
		first = api.Span{Lo: max(first.Lo, x.Lo), Hi: min(first.Hi, x.Hi)}
	}
	return first
}
