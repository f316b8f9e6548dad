package stones_test

import (
	"math/rand/v2"
	"slices"
	"strings"
	"testing"

	"millrind/api"
	"millrind/stones"
)

// faceOf draws a face: one string for each ring, from the eye to the skirt.
func faceOf(eye int, rings ...string) api.Face {
	f := api.Face{Eye: eye, Rings: len(rings), Sectors: len(rings[0])}
	for _, ring := range rings {
		for i := range len(ring) {
			f.Kinds = append(f.Kinds, strings.IndexByte(".sf", ring[i]))
		}
	}
	return f
}

// sampleF and sampleG are the faces f and g of the chapter's examples.
func sampleF() api.Face { return faceOf(1, ".s..", ".sf.") }
func sampleG() api.Face { return faceOf(1, ".s..", "....") }

func randomFace(r *rand.Rand, rings, sectors int) api.Face {
	f := api.Face{Eye: 1 + r.IntN(api.MaxEye), Rings: rings, Sectors: sectors}
	for range rings * sectors {
		f.Kinds = append(f.Kinds, r.IntN(api.Kinds))
	}
	return f
}

// sampleFaces returns faces of many shapes: the smallest and the largest ones, regular, repeating and irregular ones.
func sampleFaces() []api.Face {
	faces := []api.Face{
		sampleF(), sampleG(),
		faceOf(1, ".."), faceOf(1, ".s"), faceOf(16, "fs"), faceOf(3, "sss"), faceOf(2, ".s.s"),
		faceOf(2, "..", ".."),
		faceOf(1, "s.", ".s", "f."),
		faceOf(4, ".s..s.", "s..s..", "......"),
		faceOf(2, "sssss", "s...s", "s.f.s", "s...s", "sssss"),
		faceOf(5, "s....s", "......", "f....f", "......"),
		faceOf(7, "sf.sf.sf.sf.", ".sf.sf.sf.sf"),
	}
	r := rand.New(rand.NewPCG(1, 2))
	for _, size := range [][2]int{{1, 2}, {2, 2}, {1, 3}, {3, 3}, {2, 4}, {4, 5}, {6, 8}, {5, 12}, {9, 7}, {api.MaxRings, 2}, {1, api.MaxSectors}} {
		for range 3 {
			faces = append(faces, randomFace(r, size[0], size[1]))
		}
	}
	return append(faces, randomFace(r, api.MaxRings, api.MaxSectors))
}

// badFaces returns a face that is not valid in each field, and at each end.
func badFaces() map[string]api.Face {
	bad := map[string]api.Face{
		"none":                 {},
		"eye 0":                faceOf(0, "..", ".."),
		"eye negative":         faceOf(-1, "..", ".."),
		"eye too great":        faceOf(api.MaxEye+1, "..", ".."),
		"no rings":             {Eye: 1, Sectors: 2},
		"rings negative":       {Eye: 1, Rings: -1, Sectors: 2},
		"both negative":        {Eye: 1, Rings: -1, Sectors: -2, Kinds: []int{0, 0}},
		"too many rings":       {Eye: 1, Rings: api.MaxRings + 1, Sectors: 2, Kinds: make([]int, 2*(api.MaxRings+1))},
		"no sectors":           {Eye: 1, Rings: 2},
		"one sector":           {Eye: 1, Rings: 2, Sectors: 1, Kinds: []int{0, 0}},
		"too many sectors":     {Eye: 1, Rings: 1, Sectors: api.MaxSectors + 1, Kinds: make([]int, api.MaxSectors+1)},
		"no kinds":             {Eye: 1, Rings: 2, Sectors: 2},
		"a kind too few":       {Eye: 1, Rings: 2, Sectors: 2, Kinds: make([]int, 3)},
		"a kind too many":      {Eye: 1, Rings: 2, Sectors: 2, Kinds: make([]int, 5)},
		"kind too small":       {Eye: 1, Rings: 2, Sectors: 2, Kinds: []int{0, 0, -1, 0}},
		"last kind too great":  {Eye: 1, Rings: 2, Sectors: 2, Kinds: []int{0, 0, 0, 3}},
		"first kind too great": {Eye: 1, Rings: 2, Sectors: 2, Kinds: []int{3, 0, 0, 0}},
		"product wraps":        {Eye: 1, Rings: 1 << 62, Sectors: 4},
	}
	return bad
}

func cloneFace(f api.Face) api.Face {
	f.Kinds = slices.Clone(f.Kinds)
	return f
}

// ok fails the test unless there is no error.
func ok(t *testing.T, what string, e api.Errno) {
	t.Helper()
	if e != api.OK {
		t.Fatalf("%s: error %d", what, e)
	}
}

func wantFace(t *testing.T, what string, got, want api.Face) {
	t.Helper()
	if got.Eye != want.Eye || got.Rings != want.Rings || got.Sectors != want.Sectors || !slices.Equal(got.Kinds, want.Kinds) {
		t.Errorf("%s: got %v, want %v", what, got, want)
	}
}

func wantInts(t *testing.T, what string, got, want []int) {
	t.Helper()
	if !slices.Equal(got, want) {
		t.Errorf("%s: got %v, want %v", what, got, want)
	}
}

func must[T any](t *testing.T, what string) func(T, api.Errno) T {
	return func(v T, e api.Errno) T {
		t.Helper()
		ok(t, what, e)
		return v
	}
}

// turnOf is stones.Turn where it cannot fail.
func turnOf(t *testing.T, f api.Face, by int) api.Face {
	t.Helper()
	return must[api.Face](t, "Turn")(stones.Turn(f, by))
}
