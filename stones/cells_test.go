package stones_test

import (
	"math"
	"slices"
	"testing"

	"millrind/api"
	"millrind/stones"
)

// P1.1, S1.
func TestValid(t *testing.T) {
	for _, f := range sampleFaces() {
		if !stones.Valid(f) {
			t.Errorf("%v is valid", f)
		}
	}
	for name, f := range badFaces() {
		if stones.Valid(f) {
			t.Errorf("%s: not valid", name)
		}
	}
	for _, eye := range []int{1, api.MaxEye} {
		if !stones.Valid(faceOf(eye, "..")) {
			t.Errorf("Eye %d is valid", eye)
		}
	}
}

// P1.1, S2.
func TestSame(t *testing.T) {
	f := sampleF()
	if !stones.Same(f, sampleF()) || !stones.Same(api.Face{}, api.Face{Kinds: []int{}}) {
		t.Error("equal faces, and no faces, are the same")
	}
	bad := api.Face{Eye: -3, Rings: 9, Sectors: 1, Kinds: []int{7}}
	if !stones.Same(bad, cloneFace(bad)) {
		t.Error("faces that are not valid may be the same")
	}
	others := []api.Face{
		{Eye: 2, Rings: 2, Sectors: 4, Kinds: f.Kinds},
		{Eye: 1, Rings: 4, Sectors: 4, Kinds: f.Kinds},
		{Eye: 1, Rings: 2, Sectors: 2, Kinds: f.Kinds},
		{Eye: 1, Rings: 4, Sectors: 2, Kinds: f.Kinds},
		{Eye: 1, Rings: 2, Sectors: 4, Kinds: f.Kinds[:7]},
		{Eye: 1, Rings: 2, Sectors: 4},
		faceOf(1, ".s..", ".ss."),
		faceOf(1, "fs..", ".sf."),
		faceOf(1, ".s..", ".sff"),
	}
	for _, g := range others {
		if stones.Same(f, g) || stones.Same(g, f) {
			t.Errorf("%v and %v are not the same", f, g)
		}
	}
}

// cellCalls are all functions of a face and a cell, each with whether its result is the zero value.
func cellCalls(f api.Face, c api.Cell) map[string]func() (bool, api.Errno) {
	return map[string]func() (bool, api.Errno){
		"At":         func() (bool, api.Errno) { n, e := stones.At(f, c); return n == 0, e },
		"Set":        func() (bool, api.Errno) { g, e := stones.Set(f, c, 1); return stones.Same(g, api.Face{}), e },
		"Set badly":  func() (bool, api.Errno) { g, e := stones.Set(f, c, 3); return stones.Same(g, api.Face{}), e },
		"Index":      func() (bool, api.Errno) { n, e := stones.Index(f, c); return n == 0, e },
		"Neighbours": func() (bool, api.Errno) { l, e := stones.Neighbours(f, c); return len(l) == 0, e },
		"RegionOf":   func() (bool, api.Errno) { n, e := stones.RegionOf(f, c); return n == 0, e },
	}
}

func faceCalls(f api.Face) map[string]func() (bool, api.Errno) {
	face := func(g api.Face, e api.Errno) (bool, api.Errno) { return stones.Same(g, api.Face{}), e }
	number := func(n int, e api.Errno) (bool, api.Errno) { return n == 0, e }
	list := func(l []int, e api.Errno) (bool, api.Errno) { return len(l) == 0, e }
	return map[string]func() (bool, api.Errno){
		"CellOf":        func() (bool, api.Errno) { c, e := stones.CellOf(f, 1); return c == api.Cell{}, e },
		"CellOf beyond": func() (bool, api.Errno) { c, e := stones.CellOf(f, -1); return c == api.Cell{}, e },
		"Cells":         func() (bool, api.Errno) { l, e := stones.Cells(f, 0); return len(l) == 0, e },
		"Cells badly":   func() (bool, api.Errno) { l, e := stones.Cells(f, 3); return len(l) == 0, e },
		"Weight":        func() (bool, api.Errno) { return number(stones.Weight(f, 0)) },
		"Weight beyond": func() (bool, api.Errno) { return number(stones.Weight(f, -1)) },
		"Area":          func() (bool, api.Errno) { return number(stones.Area(f, 0)) },
		"Area badly":    func() (bool, api.Errno) { return number(stones.Area(f, 3)) },
		"Regions":       func() (bool, api.Errno) { l, e := stones.Regions(f); return len(l) == 0, e },
		"Dead":          func() (bool, api.Errno) { return list(stones.Dead(f)) },
		"Drains":        func() (bool, api.Errno) { d, e := stones.Drains(f); return !d, e },
		"Turn":          func() (bool, api.Errno) { return face(stones.Turn(f, 1)) },
		"Mirror":        func() (bool, api.Errno) { return face(stones.Mirror(f)) },
		"Normal":        func() (bool, api.Errno) { return face(stones.Normal(f)) },
		"Turns":         func() (bool, api.Errno) { return list(stones.Turns(f, sampleF())) },
		"Turns to":      func() (bool, api.Errno) { return list(stones.Turns(sampleF(), f)) },
		"Turns itself":  func() (bool, api.Errno) { return list(stones.Turns(f, f)) },
		"Period":        func() (bool, api.Errno) { return number(stones.Period(f)) },
		"Harp":          func() (bool, api.Errno) { return face(stones.Harp(f)) },
		"Print":         func() (bool, api.Errno) { s, e := stones.Print(f); return s == "", e },
	}
}

// P1.1: ErrFace comes ahead of all other errors.
func TestErrFace(t *testing.T) {
	for name, f := range badFaces() {
		for call, do := range faceCalls(f) {
			if zero, e := do(); e != api.ErrFace || !zero {
				t.Errorf("%s of a face with %s: error %d, zero %v", call, name, e, zero)
			}
		}
		for _, c := range []api.Cell{{}, {Ring: -1}, {Ring: 99, Sector: 99}} {
			for call, do := range cellCalls(f, c) {
				if zero, e := do(); e != api.ErrFace || !zero {
					t.Errorf("%s of a face with %s: error %d, zero %v", call, name, e, zero)
				}
			}
		}
	}
}

// P1.1: ErrNone comes ahead of the errors of the rules.
func TestErrNone(t *testing.T) {
	outside := []api.Cell{
		{Ring: -1}, {Ring: 2}, {Sector: -1}, {Sector: 4}, {Ring: 1, Sector: 4}, {Ring: -1, Sector: 4}, {Ring: 2, Sector: -4},
		{Ring: math.MaxInt}, {Ring: math.MinInt}, {Sector: math.MaxInt}, {Sector: math.MinInt},
	}
	for _, c := range outside {
		for call, do := range cellCalls(sampleF(), c) {
			if zero, e := do(); e != api.ErrNone || !zero {
				t.Errorf("%s of %v: error %d, zero %v", call, c, e, zero)
			}
		}
	}
	for _, i := range []int{-1, 8, 9, math.MinInt, math.MaxInt} {
		if c, e := stones.CellOf(sampleF(), i); e != api.ErrNone || c != (api.Cell{}) {
			t.Errorf("CellOf %d: %v, error %d", i, c, e)
		}
	}
	for _, ring := range []int{-1, 2, 3, math.MinInt, math.MaxInt} {
		if n, e := stones.Weight(sampleF(), ring); e != api.ErrNone || n != 0 {
			t.Errorf("Weight %d: %v, error %d", ring, n, e)
		}
	}
}

// P1.1: kinds that are none.
func TestErrArg(t *testing.T) {
	for _, kind := range []int{-1, 3, 4, math.MinInt, math.MaxInt} {
		if g, e := stones.Set(sampleF(), api.Cell{Ring: 1}, kind); e != api.ErrArg || !stones.Same(g, api.Face{}) {
			t.Errorf("Set to kind %d: %v, error %d", kind, g, e)
		}
		if l, e := stones.Cells(sampleF(), kind); e != api.ErrArg || len(l) != 0 {
			t.Errorf("Cells of kind %d: %v, error %d", kind, l, e)
		}
		if n, e := stones.Area(sampleF(), kind); e != api.ErrArg || n != 0 {
			t.Errorf("Area of kind %d: %v, error %d", kind, n, e)
		}
	}
}

// P1.1: the chapter's examples of cells and areas.
func TestCellExamples(t *testing.T) {
	f := sampleF()
	for ring, want := range []int{3, 5} {
		if got := must[int](t, "Weight")(stones.Weight(f, ring)); got != want {
			t.Errorf("Weight(f, %d): got %d, want %d", ring, got, want)
		}
	}
	for kind, want := range []int{19, 8, 5} {
		if got := must[int](t, "Area")(stones.Area(f, kind)); got != want {
			t.Errorf("Area(f, %d): got %d, want %d", kind, got, want)
		}
	}
	far := faceOf(16, "..", "..", "..")
	if got := must[int](t, "Weight")(stones.Weight(far, 2)); got != 37 {
		t.Errorf("Weight: got %d, want 37", got)
	}
	if got := must[[]api.Cell](t, "Cells")(stones.Cells(f, api.Steep)); !slices.Equal(got, []api.Cell{{Ring: 0, Sector: 1}, {Ring: 1, Sector: 1}}) {
		t.Errorf("Cells(f, Steep): got %v", got)
	}
	if got := must[[]api.Cell](t, "Cells")(stones.Cells(sampleG(), api.Feather)); len(got) != 0 {
		t.Errorf("Cells(g, Feather): got %v", got)
	}
}

// P1.2: Index and CellOf undo each other.
func TestIndexAndCellOf(t *testing.T) {
	for _, f := range sampleFaces() {
		i := 0
		for ring := range f.Rings {
			for sector := range f.Sectors {
				c := api.Cell{Ring: ring, Sector: sector}
				if got := must[int](t, "Index")(stones.Index(f, c)); got != i {
					t.Fatalf("Index of %v: got %d, want %d", c, got, i)
				}
				if got := must[api.Cell](t, "CellOf")(stones.CellOf(f, i)); got != c {
					t.Fatalf("CellOf %d: got %v, want %v", i, got, c)
				}
				if got := must[int](t, "At")(stones.At(f, c)); got != f.Kinds[i] {
					t.Fatalf("At of %v: got %v, want %v", c, got, f.Kinds[i])
				}
				i++
			}
		}
	}
}

// P1.2: after Set, At returns the kind of that cell, and all other cells have theirs.
func TestSetAndAt(t *testing.T) {
	for _, f := range sampleFaces()[:20] {
		before := cloneFace(f)
		for i := range f.Kinds {
			c := api.Cell{Ring: i / f.Sectors, Sector: i % f.Sectors}
			for kind := range api.Kinds {
				g := must[api.Face](t, "Set")(stones.Set(f, c, kind))
				if got := must[int](t, "At")(stones.At(g, c)); got != kind {
					t.Fatalf("At behind Set of %v to %d: got %d", c, kind, got)
				}
				g.Kinds[i] = f.Kinds[i]
				wantFace(t, "the other cells behind Set", g, f)
			}
		}
		wantFace(t, "the argument of Set", f, before)
	}
}

// P1.2: each cell is among Cells of exactly one kind, in increasing order.
func TestCellsOfKinds(t *testing.T) {
	for _, f := range sampleFaces() {
		times := make([]int, len(f.Kinds))
		for kind := range api.Kinds {
			last := -1
			for _, c := range must[[]api.Cell](t, "Cells")(stones.Cells(f, kind)) {
				i := c.Ring*f.Sectors + c.Sector
				if i <= last || f.Kinds[i] != kind {
					t.Fatalf("Cells of kind %d of %v: %v", kind, f, c)
				}
				last = i
				times[i]++
			}
		}
		if slices.Min(times) != 1 || slices.Max(times) != 1 {
			t.Errorf("Cells of %v: how often each one comes: %v", f, times)
		}
	}
}

// P1.3: the areas of all kinds together, and of turned and mirrored faces.
func TestAreas(t *testing.T) {
	for _, f := range sampleFaces() {
		areas := areasOf(t, f)
		outer := f.Eye + f.Rings
		if got, want := areas[0]+areas[1]+areas[2], f.Sectors*(outer*outer-f.Eye*f.Eye); got != want {
			t.Errorf("areas of %v together: got %d, want %d", f, got, want)
		}
		for _, by := range []int{1, -2, f.Sectors / 2, 1000003} {
			if got := areasOf(t, turnOf(t, f, by)); got != areas {
				t.Errorf("areas of %v turned by %d: got %v, want %v", f, by, got, areas)
			}
		}
		if got := areasOf(t, must[api.Face](t, "Mirror")(stones.Mirror(f))); got != areas {
			t.Errorf("areas of %v mirrored: got %v, want %v", f, got, areas)
		}
	}
}

// areasOf returns the areas of all kinds, and checks that each one is the sum of the weights of its cells' rings.
func areasOf(t *testing.T, f api.Face) [api.Kinds]int {
	t.Helper()
	var areas [api.Kinds]int
	for kind := range api.Kinds {
		areas[kind] = must[int](t, "Area")(stones.Area(f, kind))
		sum := 0
		for _, c := range must[[]api.Cell](t, "Cells")(stones.Cells(f, kind)) {
			sum += must[int](t, "Weight")(stones.Weight(f, c.Ring))
		}
		if sum != areas[kind] {
			t.Fatalf("Area of kind %d of %v: got %d, want %d", kind, f, areas[kind], sum)
		}
	}
	return areas
}
