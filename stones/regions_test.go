package stones_test

import (
	"slices"
	"testing"

	"millrind/api"
	"millrind/stones"
)

// P1.1: neighbours at the eye, at the skirt, behind the last sector, and of two sectors.
func TestNeighboursOfCells(t *testing.T) {
	three := faceOf(1, "....", "....", "....")
	for _, x := range []struct {
		f    api.Face
		c    api.Cell
		want [][2]int
	}{
		{sampleF(), api.Cell{}, [][2]int{{0, 1}, {0, 3}, {1, 0}}},
		{sampleF(), api.Cell{Ring: 1, Sector: 2}, [][2]int{{0, 2}, {1, 1}, {1, 3}}},
		{three, api.Cell{Ring: 1, Sector: 0}, [][2]int{{0, 0}, {1, 1}, {1, 3}, {2, 0}}},
		{three, api.Cell{Ring: 1, Sector: 2}, [][2]int{{0, 2}, {1, 1}, {1, 3}, {2, 2}}},
		{three, api.Cell{Ring: 1, Sector: 3}, [][2]int{{0, 3}, {1, 0}, {1, 2}, {2, 3}}},
		{three, api.Cell{Ring: 2, Sector: 3}, [][2]int{{1, 3}, {2, 0}, {2, 2}}},
		{faceOf(1, "..."), api.Cell{Sector: 1}, [][2]int{{0, 0}, {0, 2}}},
		{faceOf(1, ".s"), api.Cell{}, [][2]int{{0, 1}}},
		{faceOf(1, ".s"), api.Cell{Sector: 1}, [][2]int{{0, 0}}},
		{faceOf(1, "..", "s.", ".."), api.Cell{Ring: 1, Sector: 1}, [][2]int{{0, 1}, {1, 0}, {2, 1}}},
	} {
		var want []api.Cell
		for _, at := range x.want {
			want = append(want, api.Cell{Ring: at[0], Sector: at[1]})
		}
		if got := must[[]api.Cell](t, "Neighbours")(stones.Neighbours(x.f, x.c)); !slices.Equal(got, want) {
			t.Errorf("Neighbours(%v, %v): got %v, want %v", x.f, x.c, got, x.want)
		}
	}
}

// adjacent tells whether two cells are neighbours, from the words of the chapter alone.
func adjacent(f api.Face, i, j int) bool {
	ring, sector := i/f.Sectors-j/f.Sectors, i%f.Sectors-j%f.Sectors
	if ring == 0 {
		return i != j && ((sector+1)%f.Sectors == 0 || (sector-1)%f.Sectors == 0)
	}
	return sector == 0 && (ring == 1 || ring == -1)
}

// P1.4: being neighbours goes both ways, and no cell is its own neighbour.
func TestNeighboursBothWays(t *testing.T) {
	for _, f := range sampleFaces() {
		if len(f.Kinds) > 100 {
			continue
		}
		near := make([][]int, len(f.Kinds))
		for i := range f.Kinds {
			for _, c := range must[[]api.Cell](t, "Neighbours")(stones.Neighbours(f, cell(f, i))) {
				near[i] = append(near[i], c.Ring*f.Sectors+c.Sector)
			}
		}
		for i := range f.Kinds {
			var want []int
			for j := range f.Kinds {
				if adjacent(f, i, j) {
					want = append(want, j)
				}
				if slices.Contains(near[i], j) != slices.Contains(near[j], i) {
					t.Fatalf("neighbours %d and %d of %v: only one way", i, j, f)
				}
			}
			wantInts(t, "neighbours", near[i], want)
			if slices.Contains(near[i], i) {
				t.Fatalf("%d of %v is its own neighbour", i, f)
			}
		}
	}
}

func cell(f api.Face, i int) api.Cell {
	return api.Cell{Ring: i / f.Sectors, Sector: i % f.Sectors}
}

// P1.1: regions, their order and the dead ones.
func TestRegionsOfFaces(t *testing.T) {
	for _, x := range []struct {
		f       api.Face
		regions [][]int
		dead    []int
	}{
		{sampleF(), [][]int{{0, 2, 3, 4, 7}, {1, 5, 6}}, nil},
		{sampleG(), [][]int{{0, 2, 3, 4, 5, 6, 7}, {1}}, []int{1}},
		{faceOf(1, "s..s"), [][]int{{0, 3}, {1, 2}}, nil},
		{faceOf(1, "sf", "fs"), [][]int{{0, 1, 2, 3}}, nil},
		{faceOf(1, ".s", "s."), [][]int{{0}, {1}, {2}, {3}}, []int{1}},
		{faceOf(1, "f..f", "....", ".s.s", "...."), [][]int{{0, 3}, {1, 2, 4, 5, 6, 7, 8, 10, 12, 13, 14, 15}, {9}, {11}}, []int{0, 2, 3}},
		{faceOf(1, ".s.s.", "....."), [][]int{{0, 2, 4, 5, 6, 7, 8, 9}, {1}, {3}}, []int{1, 2}},
		{faceOf(1, "sss", "...", "sss"), [][]int{{0, 1, 2}, {3, 4, 5}, {6, 7, 8}}, []int{0}},
		{faceOf(1, "...", "fff"), [][]int{{0, 1, 2}, {3, 4, 5}}, nil},
		{faceOf(1, "..", ".."), [][]int{{0, 1, 2, 3}}, nil},
	} {
		got := must[[][]int](t, "Regions")(stones.Regions(x.f))
		if !slices.EqualFunc(got, x.regions, slices.Equal[[]int]) {
			t.Errorf("Regions(%v): got %v, want %v", x.f, got, x.regions)
		}
		dead := must[[]int](t, "Dead")(stones.Dead(x.f))
		wantInts(t, "Dead", dead, x.dead)
		if drains := must[bool](t, "Drains")(stones.Drains(x.f)); drains != (len(x.dead) == 0) {
			t.Errorf("Drains(%v): got %v", x.f, drains)
		}
	}
}

// P1.5: the regions are just the classes that neighbours of one ground hang together in.
func TestRegionsHangTogether(t *testing.T) {
	for _, f := range sampleFaces() {
		regions := must[[][]int](t, "Regions")(stones.Regions(f))
		of := make([]int, len(f.Kinds))
		times := make([]int, len(f.Kinds))
		last := -1
		for n, l := range regions {
			if len(l) == 0 || l[0] <= last || !slices.IsSorted(l) {
				t.Fatalf("regions of %v are out of order: %v", f, regions)
			}
			last = l[0]
			for _, i := range l {
				of[i] = n
				times[i]++
			}
			wantInts(t, "cells reached within a region", reached(t, f, l), l)
		}
		if slices.Min(times) != 1 || slices.Max(times) != 1 {
			t.Fatalf("how often each cell of %v is in a region: %v", f, times)
		}
		checkRegionOf(t, f, of)
	}
}

// checkRegionOf holds RegionOf against the numbers of Regions, and neighbours against both.
func checkRegionOf(t *testing.T, f api.Face, of []int) {
	t.Helper()
	step := max(1, len(f.Kinds)/150)
	for i := 0; i < len(f.Kinds); i += step {
		if got := must[int](t, "RegionOf")(stones.RegionOf(f, cell(f, i))); got != of[i] {
			t.Fatalf("RegionOf cell %d of %v: got %d, want %d", i, f, got, of[i])
		}
	}
	for i := range f.Kinds {
		for _, c := range must[[]api.Cell](t, "Neighbours")(stones.Neighbours(f, cell(f, i))) {
			j := c.Ring*f.Sectors + c.Sector
			if alike := (f.Kinds[i] == api.Land) == (f.Kinds[j] == api.Land); alike != (of[i] == of[j]) {
				t.Fatalf("neighbours %d and %d of %v: regions %d and %d", i, j, f, of[i], of[j])
			}
		}
	}
}

// reached returns the cells of a list that can be reached from the first one within the list.
func reached(t *testing.T, f api.Face, l []int) []int {
	t.Helper()
	in := map[int]bool{}
	for _, i := range l {
		in[i] = true
	}
	seen := map[int]bool{l[0]: true}
	list := []int{l[0]}
	for at := 0; at < len(list); at++ {
		for _, c := range must[[]api.Cell](t, "Neighbours")(stones.Neighbours(f, cell(f, list[at]))) {
			if j := c.Ring*f.Sectors + c.Sector; in[j] && !seen[j] {
				seen[j] = true
				list = append(list, j)
			}
		}
	}
	slices.Sort(list)
	return list
}

// furrows returns the regions of furrow cells.
func furrows(t *testing.T, f api.Face) [][]int {
	t.Helper()
	var list [][]int
	for _, l := range must[[][]int](t, "Regions")(stones.Regions(f)) {
		if f.Kinds[l[0]] != api.Land {
			list = append(list, l)
		}
	}
	return list
}

// P1.6: where all dead regions become land, the face drains, and nothing else changes.
func TestDraining(t *testing.T) {
	some := false
	for _, f := range sampleFaces() {
		regions := must[[][]int](t, "Regions")(stones.Regions(f))
		dead := must[[]int](t, "Dead")(stones.Dead(f))
		some = some || len(dead) > 1
		g := cloneFace(f)
		for _, n := range dead {
			for _, i := range regions[n] {
				g.Kinds[i] = api.Land
			}
		}
		if drains := must[bool](t, "Drains")(stones.Drains(g)); !drains {
			t.Errorf("%v without its dead regions drains", f)
		}
		var left [][]int
		for n, l := range regions {
			if f.Kinds[l[0]] != api.Land && !slices.Contains(dead, n) {
				left = append(left, l)
			}
		}
		if got := furrows(t, g); !slices.EqualFunc(got, left, slices.Equal[[]int]) {
			t.Errorf("furrows of %v without its dead regions: got %v, want %v", f, got, left)
		}
		if got, want := len(furrows(t, g)), len(furrows(t, f))-len(dead); got != want {
			t.Errorf("number of furrows of %v without its dead regions: got %d, want %d", f, got, want)
		}
		for n, l := range regions {
			skirt := f.Kinds[l[0]] != api.Land && l[len(l)-1] < (f.Rings-1)*f.Sectors
			if skirt != slices.Contains(dead, n) {
				t.Errorf("region %d of %v: dead is %v", n, f, !skirt)
			}
		}
	}
	if !some {
		t.Error("no sample face has two dead regions")
	}
}
