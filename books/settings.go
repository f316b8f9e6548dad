package books

import (
	"millrind/api"
	"millrind/history"
	"millrind/stones"
	"millrind/tallies"
)

// settings are the commands ahead of begin, and begin itself.
func (c *console) settings() map[string]command {
	b := &c.base
	may := func(fits func(int) bool, do func(a []int) api.Errno) command {
		return command{fits: fits, ready: c.isOpen, says: "ok", do: func(a []int) ([]int, api.Errno) { return nil, do(a) }}
	}
	set := func(fits func(int) bool, do func(a []int)) command {
		return may(fits, func(a []int) api.Errno {
			do(a)
			return api.OK
		})
	}
	return map[string]command{
		"face":   may(exactly(3), c.setFaces),
		"kind":   may(exactly(4), c.setKind),
		"drive":  may(areMoves, c.setDrive),
		"gap":    set(exactly(2), func(a []int) { b.Lift, b.Top = a[0], a[1] }),
		"grades": set(atLeast(0), func(a []int) { b.Grades = a }),
		"size":   set(exactly(2), func(a []int) { b.Size = spanOf(a) }),
		"start":  may(exactly(4), func(a []int) api.Errno { return setCell(&b.Start, a) }),
		"aim":    may(exactly(4), func(a []int) api.Errno { return setCell(&b.Aim, a) }),
		"bill":   set(exactly(3), func(a []int) { b.Deep, b.Wide = spanOf(a), a[2] }),
		"dresser": set(atLeast(1), func(a []int) {
			b.Crew.Caps = append(b.Crew.Caps, a[0])
			b.Crew.Reach = append(b.Crew.Reach, a[1:])
		}),
		"compass": set(isEven, c.setCompass),
		"pocket": set(exactly(3), func(a []int) {
			b.Pockets = append(b.Pockets, api.Pocket{Arm: pointOf(a), Most: a[2]})
		}),
		"tol": set(exactly(1), func(a []int) { b.Tol = a[0] }),
		"mesh": set(exactly(3), func(a []int) {
			b.Train.Meshes = append(b.Train.Meshes, api.Mesh{Driver: a[0], Driven: a[1], Play: a[2]})
		}),
		"begin": may(exactly(1), c.begin),
	}
}

// areMoves reports whether so many arguments are two kinds and one to three moves.
func areMoves(args int) bool { return args == 5 || args == 8 || args == 11 }

func isEven(args int) bool { return args%2 == 0 }

func spanOf(a []int) api.Span { return api.Span{Lo: a[0], Hi: a[1]} }

func pointOf(a []int) api.Point { return api.Point{X: a[0], Y: a[1]} }

func (c *console) setFaces(a []int) api.Errno {
	// A pattern without furrows is a face that is all land.
	p := api.Pattern{Eye: a[0], Rings: a[1], Harps: 1, Wide: a[2]}
	bed, e := stones.Dress(p)
	if e != api.OK {
		return api.ErrArg
	}
	c.base.Pair.Bed = bed
	c.base.Pair.Runner, _ = stones.Dress(p)
	for stone := range c.base.Start {
		c.base.Start[stone] = make([]api.Span, len(bed.Kinds))
		c.base.Aim[stone] = make([]api.Span, len(bed.Kinds))
	}
	return api.OK
}

func (c *console) setKind(a []int) api.Errno {
	if !isStone(a[0]) {
		return api.ErrArg
	}
	face := &c.base.Pair.Bed
	if a[0] == api.RunStone {
		face = &c.base.Pair.Runner
	}
	changed, e := stones.Set(*face, api.Cell{Ring: a[1], Sector: a[2]}, a[3])
	if e != api.OK {
		return e
	}
	*face = changed
	return api.OK
}

func (c *console) setDrive(a []int) api.Errno {
	bed, runner := a[0], a[1]
	if bed < 0 || bed >= api.Kinds || runner < 0 || runner >= api.Kinds {
		return api.ErrArg
	}
	var moves []api.Move
	for a = a[2:]; len(a) > 0; a = a[3:] {
		if a[2] != 0 && a[2] != 1 {
			return api.ErrArg
		}
		moves = append(moves, api.Move{Out: a[0], Side: a[1], Cut: a[2] == 1})
	}
	c.base.Pair.Drive[api.Kinds*bed+runner] = moves
	return api.OK
}

// setCell sets the span of a cell of a stone.
func setCell(spans *[2][]api.Span, a []int) api.Errno {
	stone, cell := a[0], a[1]
	if !isStone(stone) || cell < 0 || cell >= len(spans[stone]) {
		return api.ErrArg
	}
	spans[stone][cell] = spanOf(a[2:])
	return api.OK
}

func (c *console) setCompass(a []int) {
	c.base.Compass = nil
	for ; len(a) > 0; a = a[2:] {
		c.base.Compass = append(c.base.Compass, pointOf(a))
	}
}

func (c *console) begin(a []int) api.Errno {
	b := c.base
	b.Houses = a[0]
	f, e := history.FrameOf(b)
	if e != api.OK {
		return e
	}
	w, e := tallies.NewWorld(f, a[0])
	if e != api.OK {
		return e
	}
	c.base, c.world = b, w
	return api.OK
}
