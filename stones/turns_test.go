package stones_test

import (
	"math"
	"math/big"
	"slices"
	"testing"

	"millrind/api"
	"millrind/stones"
)

// P1.1: the chapter's examples of turns.
func TestTurnExamples(t *testing.T) {
	f := sampleF()
	wantFace(t, "Turn(f, 1)", turnOf(t, f, 1), faceOf(1, "..s.", "..sf"))
	wantFace(t, "Mirror(f)", must[api.Face](t, "Mirror")(stones.Mirror(f)), faceOf(1, "..s.", ".fs."))
	wantFace(t, "Normal(f)", must[api.Face](t, "Normal")(stones.Normal(f)), faceOf(1, "...s", "f..s"))
	wantInts(t, "Turns(f, Turn(f, 3))", must[[]int](t, "Turns")(stones.Turns(f, turnOf(t, f, 3))), []int{3})
	if got := must[int](t, "Period")(stones.Period(f)); got != 4 {
		t.Errorf("Period(f): got %d, want 4", got)
	}
}

// P1.1, S15: any number of sectors, however large or negative.
func TestTurnByAnyNumber(t *testing.T) {
	for _, f := range sampleFaces() {
		for _, by := range []int{0, 1, -1, f.Sectors - 1, f.Sectors, f.Sectors + 1, -f.Sectors, -f.Sectors - 1, 7, -5, math.MaxInt, math.MinInt, math.MaxInt - 1, math.MinInt + 1} {
			before := cloneFace(f)
			got := turnOf(t, f, by)
			back := new(big.Int).Mod(big.NewInt(int64(by)), big.NewInt(int64(f.Sectors))).Int64()
			want := api.Face{Eye: f.Eye, Rings: f.Rings, Sectors: f.Sectors, Kinds: make([]int, len(f.Kinds))}
			for i, kind := range f.Kinds {
				ring, sector := i/f.Sectors, (i%f.Sectors+int(back))%f.Sectors
				want.Kinds[ring*f.Sectors+sector] = kind
			}
			wantFace(t, "Turn", got, want)
			got.Kinds[0] = 9
			wantFace(t, "the argument of Turn", f, before)
		}
	}
}

// P1.7: turns add up, and mirroring undoes itself.
func TestTurnsAddUp(t *testing.T) {
	mirror := func(f api.Face) api.Face { return must[api.Face](t, "Mirror")(stones.Mirror(f)) }
	for _, f := range sampleFaces() {
		wantFace(t, "turned by Sectors", turnOf(t, f, f.Sectors), f)
		wantFace(t, "mirrored twice", mirror(mirror(f)), f)
		for _, a := range []int{0, 1, -1, 3, 50, -77} {
			for _, b := range []int{0, 1, -2, 5, 1000, -999} {
				wantFace(t, "turned by a and then by b", turnOf(t, turnOf(t, f, a), b), turnOf(t, f, a+b))
			}
			wantFace(t, "mirrored and turned", turnOf(t, mirror(f), a), mirror(turnOf(t, f, -a)))
		}
	}
}

// P1.7: turning changes neither the number of regions nor how many of them are dead.
func TestTurningKeepsRegions(t *testing.T) {
	for _, f := range sampleFaces() {
		regions := must[[][]int](t, "Regions")(stones.Regions(f))
		dead := must[[]int](t, "Dead")(stones.Dead(f))
		for _, by := range []int{1, -1, 2, f.Sectors / 2, 31} {
			g := turnOf(t, f, by)
			if got := must[[][]int](t, "Regions")(stones.Regions(g)); len(got) != len(regions) {
				t.Errorf("regions of %v turned by %d: got %d, want %d", f, by, len(got), len(regions))
			}
			if got := must[[]int](t, "Dead")(stones.Dead(g)); len(got) != len(dead) {
				t.Errorf("dead regions of %v turned by %d: got %d, want %d", f, by, len(got), len(dead))
			}
		}
	}
}

// P1.8: a face and each turned one have the same Normal, which is the least one of these.
func TestNormalIsLeast(t *testing.T) {
	for _, f := range sampleFaces() {
		before := cloneFace(f)
		normal := must[api.Face](t, "Normal")(stones.Normal(f))
		among := false
		for by := range f.Sectors {
			g := turnOf(t, f, by)
			among = among || stones.Same(g, normal)
			if slices.Compare(g.Kinds, normal.Kinds) < 0 {
				t.Errorf("Normal of %v: turned by %d it is less", f, by)
			}
			if by < 5 {
				wantFace(t, "Normal of a turned face", must[api.Face](t, "Normal")(stones.Normal(g)), normal)
			}
		}
		if !among {
			t.Errorf("Normal of %v is none of its turns: %v", f, normal)
		}
		normal.Kinds[0] = 9
		wantFace(t, "the argument of Normal", f, before)
	}
}

// P1.8: Turns and Period.
func TestTurnsAndPeriod(t *testing.T) {
	for _, f := range sampleFaces() {
		if len(f.Kinds) > 200 {
			continue
		}
		period := must[int](t, "Period")(stones.Period(f))
		if f.Sectors%period != 0 || !stones.Same(turnOf(t, f, period), f) {
			t.Errorf("Period of %v: got %d", f, period)
		}
		for by := 1; by < period; by++ {
			if stones.Same(turnOf(t, f, by), f) {
				t.Errorf("Period of %v: got %d, but %d is less", f, period, by)
			}
		}
		for by := range f.Sectors {
			var want []int
			for n := by % period; n < f.Sectors; n += period {
				want = append(want, n)
			}
			wantInts(t, "Turns", must[[]int](t, "Turns")(stones.Turns(f, turnOf(t, f, by))), want)
		}
	}
}

// P1.8: Turns returns none if and only if two faces have different Normals.
func TestTurnsOfOthers(t *testing.T) {
	faces := append(sampleFaces()[:20], faceOf(2, ".s..", ".sf."), faceOf(1, "..s.", "..sf"), faceOf(1, "..s.", ".fs."), faceOf(1, "..s.", "..s.", "..sf"), faceOf(1, ".s", "..", ".s", "f."))
	pairs := 0
	for i, f := range faces {
		for j, g := range faces {
			got := must[[]int](t, "Turns")(stones.Turns(f, g))
			same := stones.Same(must[api.Face](t, "Normal")(stones.Normal(f)), must[api.Face](t, "Normal")(stones.Normal(g)))
			if same != (len(got) > 0) {
				t.Errorf("Turns(%v, %v): got %v, same Normal %v", f, g, got, same)
			}
			if same && i != j {
				pairs++
			}
			for _, by := range got {
				wantFace(t, "turned by what Turns says", turnOf(t, f, by), g)
			}
		}
	}
	if pairs == 0 {
		t.Error("no two sample faces are turns of one another")
	}
}

// P1.8: periods and harps that are known.
func TestHarpsOfFaces(t *testing.T) {
	for _, x := range []struct {
		f, harp api.Face
		period  int
	}{
		{sampleF(), sampleF(), 4},
		{faceOf(2, ".s.s"), faceOf(2, ".s"), 2},
		{faceOf(3, "sss"), faceOf(3, "ss"), 1},
		{faceOf(3, "..", "ff"), faceOf(3, "..", "ff"), 1},
		{faceOf(3, "....", "ffff"), faceOf(3, "..", "ff"), 1},
		{faceOf(5, ".s..s.", "s..s..", "......"), faceOf(5, ".s.", "s..", "..."), 3},
		{faceOf(5, ".s..s.", "s..s..", "s....."), faceOf(5, ".s..s.", "s..s..", "s....."), 6},
		{faceOf(9, ".s.s.s", "..s..s"), faceOf(9, ".s.s.s", "..s..s"), 6},
	} {
		if got := must[int](t, "Period")(stones.Period(x.f)); got != x.period {
			t.Errorf("Period(%v): got %d, want %d", x.f, got, x.period)
		}
		wantFace(t, "Harp", must[api.Face](t, "Harp")(stones.Harp(x.f)), x.harp)
	}
}

// P1.8: each cell is that of the harp.
func TestHarpRepeats(t *testing.T) {
	for _, f := range sampleFaces() {
		before := cloneFace(f)
		harp := must[api.Face](t, "Harp")(stones.Harp(f))
		if want := max(2, must[int](t, "Period")(stones.Period(f))); harp.Sectors != want || !stones.Valid(harp) {
			t.Fatalf("Harp of %v: got %v", f, harp)
		}
		for i, kind := range f.Kinds {
			c := api.Cell{Ring: i / f.Sectors, Sector: i % f.Sectors % harp.Sectors}
			if got := must[int](t, "At")(stones.At(harp, c)); got != kind {
				t.Fatalf("Harp of %v at %v: got %d, want %d", f, c, got, kind)
			}
		}
		harp.Kinds[0] = 9
		wantFace(t, "the argument of Harp", f, before)
	}
}

// P1.1: results are new memory.
func TestMirrorIsNew(t *testing.T) {
	f := faceOf(1, "s.s", "f.f")
	g := must[api.Face](t, "Mirror")(stones.Mirror(f))
	g.Kinds[0] = 9
	wantFace(t, "the argument of Mirror", f, faceOf(1, "s.s", "f.f"))
}

// P0.2: turning both faces of a pair changes nothing but the names of the sectors: what lies above a cell lies above it behind the turn.
func TestTurningBothFaces(t *testing.T) {
	faces := sampleFaces()
	for i := 0; i+1 < len(faces); i++ {
		bed, runner := faces[i], faces[i+1]
		if bed.Rings != runner.Rings || bed.Sectors != runner.Sectors {
			continue
		}
		for _, by := range []int{1, -3, 1000} {
			b, r := turnOf(t, bed, by), turnOf(t, runner, by)
			for j := range bed.Kinds {
				moved := (j%bed.Sectors+by)%bed.Sectors + bed.Sectors
				k := j/bed.Sectors*bed.Sectors + moved%bed.Sectors
				if b.Kinds[k] != bed.Kinds[j] || r.Kinds[k] != runner.Kinds[j] {
					t.Fatalf("%v and %v turned by %d: cell %d", bed, runner, by, j)
				}
			}
		}
	}
}
