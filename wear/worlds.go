package wear

import (
	"slices"

	"millrind/api"
)

// view is a story as it is in one of its worlds.
type view struct {
	story api.Story
	hard  []int
}

// Worlds returns all worlds of a story.
func Worlds(s api.Story) ([][]int, api.Errno) {
	views, e := openStory(s)
	if e != api.OK {
		return nil, e
	}
	var l [][]int
	for _, v := range views {
		l = append(l, v.hard)
	}
	return l, api.OK
}

// Closes reports whether some heights keep all bounds of a world.
func Closes(s api.Story, world []int) (bool, api.Errno) {
	v, e := openWorld(s, world)
	if e != api.OK {
		return false, e
	}
	return v.lives(), api.OK
}

// Living returns the worlds that close.
func Living(s api.Story) ([][]int, api.Errno) {
	views, e := openStory(s)
	if e != api.OK {
		return nil, e
	}
	var l [][]int
	for v := range chartOf(s).living(views) {
		l = append(l, v.hard)
	}
	if len(l) == 0 {
		return nil, api.ErrClash
	}
	return l, api.OK
}

// Hardness returns how hard a heap may be.
func Hardness(s api.Story, heap int) ([]int, api.Errno) {
	views, e := openStory(s)
	if e != api.OK {
		return nil, e
	}
	if heap < 0 || heap >= len(s.Heaps) {
		return nil, api.ErrArg
	}
	var l []int
	for v := range chartOf(s).living(views) {
		l = append(l, v.hard[heap])
	}
	if len(l) == 0 {
		return nil, api.ErrClash
	}
	slices.Sort(l)
	return slices.Compact(l), api.OK
}

// openStory returns a valid story as it is in each of its worlds, if these are not too many.
func openStory(s api.Story) ([]view, api.Errno) {
	if e, _ := Check(s); e != api.OK {
		return nil, e
	}
	if isWide(s) {
		return nil, api.ErrLimit
	}
	return viewsOf(s), api.OK
}

// openWorld returns a valid story as it is in a world.
func openWorld(s api.Story, world []int) (view, api.Errno) {
	if e, _ := Check(s); e != api.OK {
		return view{}, e
	}
	if !isWorld(s, world) {
		return view{}, api.ErrWorld
	}
	return view{s, world}, api.OK
}

// isWide stops as soon as there are too many worlds: the number of all of them may be too great for an int.
func isWide(s api.Story) bool {
	n := 1
	for _, x := range s.Heaps {
		n *= x.Hi - x.Lo + 1
		if n > api.MaxWorlds {
			return true
		}
	}
	return false
}

func isWorld(s api.Story, world []int) bool {
	if len(world) != len(s.Heaps) {
		return false
	}
	for i, x := range s.Heaps {
		if world[i] < x.Lo || world[i] > x.Hi {
			return false
		}
	}
	return true
}

// viewsOf returns the views of all worlds of a story that is not wide, in order, each with a list of its own.
func viewsOf(s api.Story) []view {
	var views []view
	hard := make([]int, len(s.Heaps))
	var choose func(heap int)
	choose = func(heap int) {
		if heap == len(hard) {
			views = append(views, view{s, slices.Clone(hard)})
			return
		}
		for n := s.Heaps[heap].Lo; n <= s.Heaps[heap].Hi; n++ {
			hard[heap] = n
			choose(heap + 1)
		}
	}
	choose(0)
	return views
}
