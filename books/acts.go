package books

import "millrind/api"

// notes are the commands by which a house writes something down; each of them begins with the house and the day.
func (c *console) notes() map[string]command {
	note := func(fits func(int) bool, of func(a []int) api.Note) command {
		return command{fits: fits, ready: c.hasBegun, says: "ok", do: func(a []int) ([]int, api.Errno) {
			n := of(a[2:])
			n.Day = a[1]
			num, e := c.write(a[0], n)
			return []int{num}, e
		}}
	}
	return map[string]command{
		"heap":       note(exactly(4), heapOf),
		"pass":       note(exactly(5), passOf),
		"read":       note(exactly(7), readingOf),
		"strokes":    note(atLeast(4), strokesOf),
		"fixheap":    note(exactly(6), func(a []int) api.Note { return fixOf(a, heapOf(a[2:])) }),
		"fixpass":    note(exactly(5), func(a []int) api.Note { return fixOf(a, passOf(a)) }),
		"fixread":    note(exactly(9), func(a []int) api.Note { return fixOf(a, readingOf(a[2:])) }),
		"fixstrokes": note(atLeast(6), func(a []int) api.Note { return fixOf(a, strokesOf(a[2:])) }),
		"undo":       note(exactly(4), func(a []int) api.Note { return api.Note{Kind: api.NoteWithdraw, Ref: nameOf(a)} }),
	}
}

func nameOf(a []int) api.Name { return api.Name{House: a[0], Num: a[1]} }

func heapOf(a []int) api.Note { return api.Note{Kind: api.NoteHeap, Hard: spanOf(a)} }

func passOf(a []int) api.Note { return api.Note{Kind: api.NotePass, Ref: nameOf(a), Turns: a[2]} }

func readingOf(a []int) api.Note {
	return api.Note{Kind: api.NoteReading, Stone: a[0], A: a[1], B: a[2], Diff: spanOf(a[3:])}
}

func strokesOf(a []int) api.Note {
	return api.Note{Kind: api.NoteStrokes, Stone: a[0], Ring: a[1], Strokes: a[2:]}
}

// fixOf returns the correction of the note that arguments name, by what a note tells.
func fixOf(a []int, n api.Note) api.Note {
	n.Fix = n.Kind
	n.Kind, n.Ref = api.NoteCorrect, nameOf(a)
	return n
}

// write lets a house do a note, and returns the Num of it.
func (c *console) write(house int, n api.Note) (int, api.Errno) {
	if e := c.world.Step(api.Act{Kind: api.ActDo, House: house, Note: n}); e != api.OK {
		return 0, e
	}
	notes, e := c.world.Notes(house)
	num := 0
	for _, x := range notes {
		if x.House == house {
			num = x.Num // they increase
		}
	}
	return num, e
}

// acts are the commands by which something happens in the world of houses.
func (c *console) acts() map[string]command {
	do := func(fits func(int) bool, f func(a []int) api.Errno) command {
		return command{fits: fits, ready: c.hasBegun, says: "ok", do: func(a []int) ([]int, api.Errno) { return nil, f(a) }}
	}
	step := func(args int, of func(a []int) api.Act) command {
		return do(exactly(args), func(a []int) api.Errno { return c.world.Step(of(a)) })
	}
	return map[string]command{
		"sync":    step(1, func(a []int) api.Act { return api.Act{Kind: api.ActSync, House: a[0]} }),
		"ask":     step(2, func(a []int) api.Act { return api.Act{Kind: api.ActAsk, House: a[0], To: a[1]} }),
		"deliver": step(1, func(a []int) api.Act { return api.Act{Kind: api.ActDeliver, Index: a[0]} }),
		"lose":    step(1, func(a []int) api.Act { return api.Act{Kind: api.ActLose, Index: a[0]} }),
		"double":  step(1, func(a []int) api.Act { return api.Act{Kind: api.ActDouble, Index: a[0]} }),
		"crash": step(4, func(a []int) api.Act {
			return api.Act{Kind: api.ActCrash, House: a[0], Keep: a[1], Flip: a[2], Index: a[3]}
		}),
		"settle": do(exactly(0), func([]int) api.Errno { return c.world.Settle() }),
	}
}
