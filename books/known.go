package books

import (
	"millrind/api"
	"millrind/history"
	"millrind/wear"
)

// maxSide is the greatest number of cells times worlds of a side that is not large.
const maxSide = 4096

// Stories returns the stories of both stones.
func Stories(b api.Base, r api.Register) ([2]api.Story, api.Errno) {
	var stories [2]api.Story
	for stone := range stories {
		s, e := history.StoryOf(b, r, stone)
		if e != api.OK {
			return [2]api.Story{}, e
		}
		stories[stone] = s
	}
	return stories, api.OK
}

// Heights returns the bounds of the heights of a stone as they are now.
func Heights(b api.Base, r api.Register, stone int) ([]api.Span, api.Errno) {
	s, e := history.StoryOf(b, r, stone)
	if e != api.OK {
		return nil, e
	}
	if isLarge(s) {
		return nil, api.ErrLimit
	}
	return wear.Heights(s, lastSlice(s))
}

// Tasks returns the lines of work, with their tasks.
func Tasks(b api.Base, r api.Register) ([]api.Line, api.Errno) {
	stories, e := smallStories(b, r)
	if e != api.OK {
		return nil, e
	}
	var heights [2][]api.Span
	for stone, s := range stories {
		heights[stone], e = wear.Heights(s, lastSlice(s))
		if e != api.OK {
			return nil, e
		}
	}
	return linesOf(b, heights), api.OK
}

// Weights returns the heights of the runner with which it is balanced.
func Weights(b api.Base, r api.Register) ([]int, api.Errno) {
	heights, e := Heights(b, r, api.RunStone)
	return leastOf(heights), e
}

// smallStories returns the stories of both stones; ErrLimit, if a side is large.
func smallStories(b api.Base, r api.Register) ([2]api.Story, api.Errno) {
	stories, e := Stories(b, r)
	if e != api.OK {
		return stories, e
	}
	if isLarge(stories[api.BedStone]) || isLarge(stories[api.RunStone]) {
		return [2]api.Story{}, api.ErrLimit
	}
	return stories, api.OK
}

// isLarge reports whether the side of a valid story is large.
func isLarge(s api.Story) bool {
	worlds, e := wear.Worlds(s)
	return e != api.OK || len(s.Start)*len(worlds) > maxSide
}

// lastSlice is the one behind all steps.
func lastSlice(s api.Story) int { return len(s.Steps) }

func isStone(stone int) bool { return stone == api.BedStone || stone == api.RunStone }

// leastOf returns the least heights.
func leastOf(heights []api.Span) []int {
	var l []int
	for _, h := range heights {
		l = append(l, h.Lo)
	}
	return l
}
