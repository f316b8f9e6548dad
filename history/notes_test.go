package history_test

import (
	"math"
	"math/rand"
	"slices"
	"testing"

	"millrind/api"
	"millrind/history"
)

// examples returns a well-formed note for each row of the chapter's table, and for each kind that a correction may have.
func examples() map[string]api.Note {
	head := api.Note{House: 2, Num: 7, Clock: 9, Day: 3}
	with := func(change func(n *api.Note)) api.Note {
		n := head
		change(&n)
		return n
	}
	return map[string]api.Note{
		"a heap":    with(func(n *api.Note) { n.Kind, n.Hard = 1, span(2, 4) }),
		"a pass":    with(func(n *api.Note) { n.Kind, n.Ref, n.Turns = 2, name(1, 1), 3 }),
		"a reading": with(func(n *api.Note) { n.Kind, n.Stone, n.A, n.B, n.Diff = 3, 1, 5, 2, span(-3, 8) }),
		"strokes":   with(func(n *api.Note) { n.Kind, n.Stone, n.Ring, n.Strokes = 4, 1, 1, []int{0, 0, 2} }),
		"a fixed heap": with(func(n *api.Note) {
			n.Kind, n.Ref, n.Fix, n.Hard = 5, name(1, 1), 1, span(2, 4)
		}),
		"a fixed pass": with(func(n *api.Note) {
			n.Kind, n.Ref, n.Fix, n.Turns = 5, name(1, 2), 2, 3
		}),
		"a fixed reading": with(func(n *api.Note) {
			n.Kind, n.Ref, n.Fix, n.Stone, n.A, n.B, n.Diff = 5, name(1, 3), 3, 1, 5, 2, span(-3, 8)
		}),
		"fixed strokes": with(func(n *api.Note) {
			n.Kind, n.Ref, n.Fix, n.Stone, n.Ring, n.Strokes = 5, name(1, 4), 4, 1, 1, []int{0, 0, 2}
		}),
		"a withdrawal": with(func(n *api.Note) { n.Kind, n.Ref = 6, name(8, 400) }),
	}
}

// said returns the kind of what a note tells.
func said(n api.Note) int {
	if n.Kind == api.NoteCorrect {
		return n.Fix
	}
	return n.Kind
}

// P8.1, H3: each row of the table is well-formed, with its least and greatest numbers too.
func TestWellFormedNotes(t *testing.T) {
	for what, n := range examples() {
		wantError(t, what, history.CheckNote(frame(), n), api.OK)
	}
	for what, x := range map[string]struct {
		kinds  []int
		change func(n *api.Note)
	}{
		"the least name and time":    {nil, func(n *api.Note) { n.House, n.Num, n.Clock, n.Day = 1, 1, 1, 0 }},
		"the greatest name and time": {nil, func(n *api.Note) { n.House, n.Num, n.Clock, n.Day = 8, 400, 1<<40, 99999 }},
		"the softest heap":           {[]int{1}, func(n *api.Note) { n.Hard = span(1, 1) }},
		"the hardest heap":           {[]int{1}, func(n *api.Note) { n.Hard = span(255, 255) }},
		"any heap":                   {[]int{1}, func(n *api.Note) { n.Hard = span(1, 255) }},
		"the shortest pass":          {[]int{2}, func(n *api.Note) { n.Turns = 1 }},
		"the longest pass":           {[]int{2}, func(n *api.Note) { n.Turns = 10000 }},
		"the first cell alone":       {[]int{3}, func(n *api.Note) { n.A, n.B = 0, -1 }},
		"the last cell, the first":   {[]int{3}, func(n *api.Note) { n.A, n.B = 7, 0 }},
		"the first cell, the last":   {[]int{3}, func(n *api.Note) { n.A, n.B = 0, 7 }},
		"the bed's cells":            {[]int{3, 4}, func(n *api.Note) { n.Stone = 0 }},
		"the widest reading":         {[]int{3}, func(n *api.Note) { n.Diff = span(-1000000000, 1000000000) }},
		"the lowest reading":         {[]int{3}, func(n *api.Note) { n.Diff = span(-1000000000, -1000000000) }},
		"the first ring":             {[]int{4}, func(n *api.Note) { n.Ring = 0 }},
		"one stroke":                 {[]int{4}, func(n *api.Note) { n.Strokes = []int{2} }},
		"all strokes":                {[]int{4}, func(n *api.Note) { n.Strokes = make([]int, 200) }},
		"an empty list":              {[]int{1, 2, 3, 6}, func(n *api.Note) { n.Strokes = []int{} }},
	} {
		for which, n := range examples() {
			if x.kinds == nil || slices.Contains(x.kinds, said(n)) {
				x.change(&n)
				wantError(t, which+", "+what, history.CheckNote(frame(), n), api.OK)
			}
		}
	}
}

// P8.1, H3: what is beyond a limit of the table is ErrNote.
func TestNotesBeyondLimits(t *testing.T) {
	for what, x := range map[string]struct {
		kinds  []int
		change func(n *api.Note)
	}{
		"no house":                  {nil, func(n *api.Note) { n.House = 0 }},
		"a house too great":         {nil, func(n *api.Note) { n.House = 9 }},
		"no num":                    {nil, func(n *api.Note) { n.Num = 0 }},
		"a num too great":           {nil, func(n *api.Note) { n.Num = 401 }},
		"no clock":                  {nil, func(n *api.Note) { n.Clock = 0 }},
		"a clock too great":         {nil, func(n *api.Note) { n.Clock = 1<<40 + 1 }},
		"a day below 0":             {nil, func(n *api.Note) { n.Day = -1 }},
		"a day too great":           {nil, func(n *api.Note) { n.Day = 100000 }},
		"no kind":                   {nil, func(n *api.Note) { n.Kind = 0 }},
		"a kind below 0":            {nil, func(n *api.Note) { n.Kind = -1 }},
		"a kind too great":          {nil, func(n *api.Note) { n.Kind = 7 }},
		"no hardness":               {[]int{1}, func(n *api.Note) { n.Hard = span(0, 4) }},
		"too hard":                  {[]int{1}, func(n *api.Note) { n.Hard = span(2, 256) }},
		"an inverted hardness":      {[]int{1}, func(n *api.Note) { n.Hard = span(4, 3) }},
		"no turns":                  {[]int{2}, func(n *api.Note) { n.Turns = 0 }},
		"too many turns":            {[]int{2}, func(n *api.Note) { n.Turns = 10001 }},
		"a stone below 0":           {[]int{3, 4}, func(n *api.Note) { n.Stone = -1 }},
		"a stone too great":         {[]int{3, 4}, func(n *api.Note) { n.Stone = 2 }},
		"a cell below 0":            {[]int{3}, func(n *api.Note) { n.A = -1 }},
		"a cell too great":          {[]int{3}, func(n *api.Note) { n.A = 8 }},
		"the other below -1":        {[]int{3}, func(n *api.Note) { n.B = -2 }},
		"the other too great":       {[]int{3}, func(n *api.Note) { n.B = 8 }},
		"one cell twice":            {[]int{3}, func(n *api.Note) { n.B = n.A }},
		"an inverted diff":          {[]int{3}, func(n *api.Note) { n.Diff = span(1, 0) }},
		"a diff too low":            {[]int{3}, func(n *api.Note) { n.Diff.Lo = -1000000001 }},
		"a diff too great":          {[]int{3}, func(n *api.Note) { n.Diff.Hi = 1000000001 }},
		"a diff beyond all":         {[]int{3}, func(n *api.Note) { n.Diff = span(math.MinInt, math.MaxInt) }},
		"a ring below 0":            {[]int{4}, func(n *api.Note) { n.Ring = -1 }},
		"a ring too great":          {[]int{4}, func(n *api.Note) { n.Ring = 2 }},
		"no strokes":                {[]int{4}, func(n *api.Note) { n.Strokes = nil }},
		"too many strokes":          {[]int{4}, func(n *api.Note) { n.Strokes = make([]int, 201) }},
		"a stroke below 0":          {[]int{4}, func(n *api.Note) { n.Strokes = []int{-1, 2} }},
		"a stroke too far":          {[]int{4}, func(n *api.Note) { n.Strokes = []int{0, 3} }},
		"strokes out of order":      {[]int{4}, func(n *api.Note) { n.Strokes = []int{0, 2, 1} }},
		"a ref's house of 0":        {[]int{2, 5, 6}, func(n *api.Note) { n.Ref.House = 0 }},
		"a ref's house too great":   {[]int{2, 5, 6}, func(n *api.Note) { n.Ref.House = 9 }},
		"a ref's num of 0":          {[]int{2, 5, 6}, func(n *api.Note) { n.Ref.Num = 0 }},
		"a ref's num too great":     {[]int{2, 5, 6}, func(n *api.Note) { n.Ref.Num = 401 }},
		"a correction of nothing":   {[]int{5}, func(n *api.Note) { n.Fix = 0 }},
		"a fix below 0":             {[]int{5}, func(n *api.Note) { n.Fix = -1 }},
		"a correction by itself":    {[]int{5}, func(n *api.Note) { n.Fix = 5 }},
		"a correction by its undo":  {[]int{5}, func(n *api.Note) { n.Fix = 6 }},
		"an undo called correction": {[]int{6}, func(n *api.Note) { n.Kind, n.Fix = 5, 6 }},
		"a fix too great":           {[]int{5}, func(n *api.Note) { n.Fix = 7 }},
	} {
		for which, n := range examples() {
			if x.kinds == nil || slices.Contains(x.kinds, said(n)) || slices.Contains(x.kinds, n.Kind) {
				x.change(&n)
				if modelWellFormed(frame(), n) {
					t.Errorf("%s, %s: is well-formed", which, what)
				}
				wantError(t, which+", "+what, history.CheckNote(frame(), n), api.ErrNote)
			}
		}
	}
}

// fields are changes of each field that some kinds do not name.
func fields() map[string]func(n *api.Note) {
	return map[string]func(n *api.Note){
		"Stone":     func(n *api.Note) { n.Stone = 1 },
		"Heap":      func(n *api.Note) { n.Heap = 1 },
		"Turns":     func(n *api.Note) { n.Turns = 1 },
		"Hard.Lo":   func(n *api.Note) { n.Hard.Lo = 1 },
		"Hard.Hi":   func(n *api.Note) { n.Hard.Hi = 5 },
		"Diff.Lo":   func(n *api.Note) { n.Diff.Lo = -1 },
		"Diff.Hi":   func(n *api.Note) { n.Diff.Hi = 9 },
		"A":         func(n *api.Note) { n.A = 1 },
		"B":         func(n *api.Note) { n.B = -1 },
		"Ring":      func(n *api.Note) { n.Ring = 1 },
		"Strokes":   func(n *api.Note) { n.Strokes = []int{0} },
		"Ref.House": func(n *api.Note) { n.Ref.House = 1 },
		"Ref.Num":   func(n *api.Note) { n.Ref.Num = 1 },
		"Fix":       func(n *api.Note) { n.Fix = 4 },
	}
}

// P8.1, H3: a field that the row of a kind does not name must be 0 or empty; one that it names may be as the row says.
func TestFieldsWithoutMeaning(t *testing.T) {
	ill := map[string]int{}
	for what, n := range examples() {
		for field, change := range fields() {
			x := n
			change(&x)
			expected := api.OK
			if !modelWellFormed(frame(), x) {
				expected = api.ErrNote
				ill[field]++
			}
			wantError(t, what+" with "+field, history.CheckNote(frame(), x), expected)
		}
	}
	want(t, "kinds that do not allow a field", ill, map[string]int{
		"Stone": 5, "Heap": 9, "Turns": 7, "Hard.Lo": 7, "Hard.Hi": 7, "Diff.Lo": 7, "Diff.Hi": 7,
		"A": 7, "B": 7, "Ring": 7, "Strokes": 7, "Ref.House": 3, "Ref.Num": 3, "Fix": 8,
	})
}

// P8.1, H3: a frame that is not valid is ErrArg, whatever the note is; in a valid one its numbers are the limits.
func TestFrames(t *testing.T) {
	for what, f := range badFrames() {
		for which, n := range examples() {
			wantError(t, which+", "+what, history.CheckNote(f, n), api.ErrArg)
		}
		wantError(t, what, history.CheckNote(f, api.Note{}), api.ErrArg)
	}
	strokes, reading := examples()["strokes"], examples()["a reading"]
	for _, x := range []struct {
		f                  api.Frame
		ring, first, cells int
	}{
		{api.Frame{Rings: 24, Sectors: 96, Wide: 96}, 23, 0, 2304},
		{api.Frame{Rings: 24, Sectors: 96, Wide: 1}, 23, 95, 2304},
		{api.Frame{Rings: 1, Sectors: 2, Wide: 1}, 0, 1, 2},
		{api.Frame{Rings: 1, Sectors: 2, Wide: 2}, 0, 0, 2},
		{api.Frame{Rings: 3, Sectors: 5, Wide: 2}, 2, 3, 15},
	} {
		n := strokes
		n.Ring, n.Strokes = x.ring, []int{x.first}
		wantError(t, "the last ring and stroke", history.CheckNote(x.f, n), api.OK)
		n.Ring = x.ring + 1
		wantError(t, "a ring behind the last one", history.CheckNote(x.f, n), api.ErrNote)
		n.Ring, n.Strokes = x.ring, []int{x.first + 1}
		wantError(t, "a stroke behind the last one", history.CheckNote(x.f, n), api.ErrNote)
		n = reading
		n.A, n.B = x.cells-1, -1
		wantError(t, "the last cell", history.CheckNote(x.f, n), api.OK)
		n.A = x.cells
		wantError(t, "a cell behind the last one", history.CheckNote(x.f, n), api.ErrNote)
		n.A, n.B = 0, x.cells
		wantError(t, "another cell behind the last one", history.CheckNote(x.f, n), api.ErrNote)
	}
}

// P8.1, H3: notes of any form are told as the chapter says.
func TestAnyNotes(t *testing.T) {
	rng := rand.New(rand.NewSource(8))
	well := 0
	for range 60000 {
		n := anyNote(rng, fromTo(rng, 1, 8), fromTo(rng, 1, 400), 99, []int{1, 2, 3, 4, 5, 6})
		list := fields()
		keys := []string{"Stone", "Heap", "Turns", "Hard.Lo", "Hard.Hi", "Diff.Lo", "Diff.Hi", "A", "B", "Ring", "Strokes", "Ref.House", "Ref.Num", "Fix"}
		for range rng.Intn(3) {
			list[keys[rng.Intn(len(keys))]](&n)
		}
		if rng.Intn(8) == 0 {
			n.Kind = fromTo(rng, 0, 7)
		}
		expected := api.ErrNote
		if modelWellFormed(frame(), n) {
			expected = api.OK
			well++
		}
		if wantError(t, "CheckNote", history.CheckNote(frame(), n), expected); t.Failed() {
			t.Fatalf("the note is %+v", n)
		}
	}
	if well < 10000 || well > 50000 {
		t.Errorf("%d of 60000 notes are well-formed", well)
	}
}

// P8.1, H5: notes take effect by day, then clock, then house, then num, whatever else they say.
func TestBefore(t *testing.T) {
	at := func(day, clock, house, num int) api.Note {
		return api.Note{House: house, Num: num, Clock: clock, Day: day}
	}
	ordered := []api.Note{
		at(math.MinInt, math.MaxInt, 9, 9), at(-1, 9, 9, 9), at(0, -5, 9, 9), at(0, 0, 0, 0), at(0, 0, 0, 1), at(0, 0, 1, 0),
		at(0, 1, 0, 0), at(1, 0, 0, 0), at(1, 0, 0, 1), at(1, 0, 2, 0), at(1, 3, 1, 0), at(math.MaxInt, math.MinInt, 0, 0),
	}
	for i, a := range ordered {
		for k, b := range ordered {
			want(t, "Before", history.Before(a, b), i < k)
			a.Kind, a.Hard, a.Strokes, b.Ref, b.Turns = 4, span(9, 9), []int{3}, name(9, 9), -1
			want(t, "Before of other content", history.Before(a, b), i < k)
		}
	}
}
