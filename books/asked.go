package books

import (
	"slices"

	"millrind/api"
	"millrind/history"
	"millrind/wear"
)

// questions are the commands that ask for what the register of a house amounts to; each of them begins with the house.
func (c *console) questions() map[string]command {
	ask := func(word string, args int, of func(r api.Register, a []int) ([]int, api.Errno)) command {
		return command{fits: exactly(1 + args), ready: c.hasBegun, says: word, do: func(a []int) ([]int, api.Errno) {
			r, e := c.register(a[0])
			if e != api.OK {
				return nil, e
			}
			return of(r, a[1:])
		}}
	}
	return map[string]command{
		"heights":   ask("heights", 1, c.askHeights),
		"clash":     ask("clash", 1, c.askClash),
		"hard":      ask("hard", 2, c.askHard),
		"lines":     ask("lines", 0, c.askLines),
		"conflicts": ask("conflicts", 0, askConflicts),
		"book":      ask("book", 0, c.writeBook),
	}
}

// register returns the register of a house; ErrNone, if there is no such house.
func (c *console) register(house int) (api.Register, api.Errno) {
	notes, e := c.world.Notes(house)
	if e != api.OK {
		return api.Register{}, e
	}
	f, e := history.FrameOf(c.base)
	if e != api.OK {
		return api.Register{}, e
	}
	return history.Fold(f, notes)
}

func (c *console) askHeights(r api.Register, a []int) ([]int, api.Errno) {
	heights, e := Heights(c.base, r, a[0])
	return endsOf(heights), e
}

func (c *console) askClash(r api.Register, a []int) ([]int, api.Errno) {
	s, e := history.StoryOf(c.base, r, a[0])
	if e != api.OK {
		return nil, e
	}
	return wear.Clash(s)
}

func (c *console) askHard(r api.Register, a []int) ([]int, api.Errno) {
	s, e := history.StoryOf(c.base, r, a[0])
	if e != api.OK {
		return nil, e
	}
	return wear.Hardness(s, a[1])
}

func (c *console) askLines(r api.Register, _ []int) ([]int, api.Errno) {
	lines, e := Tasks(c.base, r)
	var numbers []int
	for _, line := range lines {
		numbers = append(numbers, line.State, line.Cell)
	}
	return numbers, e
}

func askConflicts(r api.Register, _ []int) ([]int, api.Errno) {
	var numbers []int
	for _, x := range r.Conflicts {
		numbers = append(numbers, x.House, x.Num)
	}
	return numbers, api.OK
}

func (c *console) writeBook(r api.Register, _ []int) ([]int, api.Errno) {
	x, e := Build(c.base, r)
	if e != api.OK {
		return nil, e
	}
	c.book = &x
	return []int{int(x.Trouble), len(x.Sides[api.BedStone].Worlds), len(x.Sides[api.RunStone].Worlds), x.Shifts}, api.OK
}

// bookQuestions are the commands that ask for what the console's book says, and done.
func (c *console) bookQuestions() map[string]command {
	ask := func(word string, args int, of func(a []int) ([]int, api.Errno)) command {
		return command{fits: exactly(args), ready: c.hasBook, says: word, do: of}
	}
	return map[string]command{
		"check": ask("faults", 0, func([]int) ([]int, api.Errno) { return faultsBehindBytes(*c.book) }),
		"plan":  ask("plan", 2, func(a []int) ([]int, api.Errno) { return PlanOf(*c.book, a[0], a[1]) }),
		"behind": ask("behind", 1, func(a []int) ([]int, api.Errno) {
			heights, e := Behind(*c.book, a[0])
			return endsOf(heights), e
		}),
		"lead": ask("lead", 0, func([]int) ([]int, api.Errno) { return slices.Clone(c.book.Lead), api.OK }),
		"cuts": ask("cuts", 0, func([]int) ([]int, api.Errno) {
			n, e := Cuts(*c.book)
			return []int{n}, e
		}),
		"done": ask("done", 2, c.doWork),
	}
}

// faultsBehindBytes checks a book as whoever decodes it does.
func faultsBehindBytes(x api.Book) ([]int, api.Errno) {
	b, e := Encode(x)
	if e != api.OK {
		return nil, e
	}
	x, e = Decode(b)
	if e != api.OK {
		return nil, e
	}
	var numbers []int
	for _, fault := range Check(x) {
		numbers = append(numbers, fault.Kind, fault.Index)
	}
	return numbers, api.OK
}

// doWork lets a house do the work of the book on a day, as far as it may.
func (c *console) doWork(a []int) ([]int, api.Errno) {
	house, day := a[0], a[1]
	notes, e := Strokes(*c.book)
	if e != api.OK {
		return nil, e
	}
	if _, e := c.world.Notes(house); e != api.OK {
		return nil, e
	}
	var nums []int
	for _, n := range notes {
		n.Day = day
		num, e := c.write(house, n)
		if e != api.OK {
			break
		}
		nums = append(nums, num)
	}
	return nums, api.OK
}

// endsOf returns Lo and Hi of each span.
func endsOf(spans []api.Span) []int {
	var l []int
	for _, x := range spans {
		l = append(l, x.Lo, x.Hi)
	}
	return l
}
