package books

import (
	"slices"
	"sync"

	"millrind/api"
	"millrind/wear"
)

// sidesOf returns what is told of both stones; each side has a goroutine of its own.
func sidesOf(stories [2]api.Story) [2]api.Side {
	var sides [2]api.Side
	var wait sync.WaitGroup
	for stone := range sides {
		wait.Add(1)
		go func() {
			defer wait.Done()
			sides[stone] = sideOf(stories[stone])
		}()
	}
	wait.Wait()
	return sides
}

// sideOf returns what is told of a stone whose side is not large.
func sideOf(s api.Story) api.Side {
	side := api.Side{Story: s}
	living, e := wear.Living(s)
	if e != api.OK {
		side.Loops = loopsOf(s)
		return side
	}
	for _, hard := range living {
		lowest, _ := wear.Lowest(s, hard)
		highest, _ := wear.Highest(s, hard)
		side.Worlds = append(side.Worlds, api.World{Hard: hard, Lowest: lowest, Highest: highest})
	}
	heights, _ := wear.Heights(s, lastSlice(s))
	for cell, h := range heights {
		side.Told = append(side.Told, toldOf(side, cell, h))
	}
	return side
}

// loopsOf returns a loop of each world of a story in which none lives.
func loopsOf(s api.Story) []api.Case {
	var loops []api.Case
	worlds, _ := wear.Worlds(s)
	for _, hard := range worlds {
		path, _ := wear.Loop(s, hard)
		loops = append(loops, api.Case{World: hard, Loop: true, Path: path})
	}
	return loops
}

// toldOf returns what is told of a cell, by a side that has its worlds.
func toldOf(side api.Side, cell int, h api.Span) api.Told {
	last := lastSlice(side.Story)
	x := api.Told{Cell: cell, Height: h}
	x.Low, _ = wear.Prove(side.Story, last, cell, false)
	x.High, _ = wear.Prove(side.Story, last, cell, true)
	x.LowIn = slices.IndexFunc(side.Worlds, func(w api.World) bool { return w.Lowest[last][cell] == h.Lo })
	x.HighIn = slices.IndexFunc(side.Worlds, func(w api.World) bool { return w.Highest[last][cell] == h.Hi })
	return x
}

// heightsTold returns the heights that a book tells of both stones.
func heightsTold(x api.Book) [2][]api.Span {
	var heights [2][]api.Span
	for stone, side := range x.Sides {
		for _, told := range side.Told {
			heights[stone] = append(heights[stone], told.Height)
		}
	}
	return heights
}
