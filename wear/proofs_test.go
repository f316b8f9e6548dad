package wear_test

import (
	"math/rand"
	"slices"
	"testing"

	"millrind/api"
	"millrind/wear"
)

// P4.1, W14 to W17: the examples of the chapter, with the bounds that it gives as a loop and a path.
func TestExampleProofs(t *testing.T) {
	s := example()
	loop := []api.Bound{
		{From: -1, To: 1, Most: 110, Kind: api.BoundStart, ID: 1},
		{From: 1, To: 1, ToAt: 1, Most: -30, Kind: api.BoundStep},
		{From: 1, FromAt: 1, To: 0, ToAt: 1, Most: 3, Kind: api.BoundReading},
		{From: 0, FromAt: 1, To: 0, Most: 15, Kind: api.BoundStep},
		{From: 0, To: -1, Most: -100, Kind: api.BoundStart},
	}
	if !must[bool](t, "CheckLoop")(wear.CheckLoop(s, []int{3}, loop)) {
		t.Error("the loop of the chapter is none")
	}
	if must[bool](t, "CheckLoop")(wear.CheckLoop(s, []int{2}, loop)) {
		t.Error("the loop of the chapter is one of another world")
	}
	path := []api.Bound{
		{From: -1, To: 0, Most: 100, Kind: api.BoundStart},
		{From: 0, To: 0, ToAt: 1, Most: -10, Kind: api.BoundStep},
		{From: 0, FromAt: 1, To: 1, ToAt: 1, Most: 0, Kind: api.BoundReading},
	}
	if n := must[int](t, "CheckPath")(wear.CheckPath(s, []int{2}, 1, 1, true, path)); n != 90 {
		t.Errorf("the path of the chapter proves %d", n)
	}
}

// P4.1, P4.3, W14, W15: a world has a loop if and only if it does not live, and what Loop returns is one, in the eyes of CheckLoop and in the chapter's words.
func TestLoops(t *testing.T) {
	eachWorld(t, 400, func(s api.Story, m model) {
		l, e := wear.Loop(s, m.world)
		if m.lives {
			if wantError(t, "Loop of a world that lives", e, api.ErrNone); len(l) > 0 {
				t.Errorf("Loop of a world that lives: %v", l)
			}
			return
		}
		wantError(t, "Loop", e, api.OK)
		if !isLoop(m, l) || !must[bool](t, "CheckLoop")(wear.CheckLoop(s, m.world, l)) {
			t.Errorf("Loop of %v: %v", m.world, l)
		}
	})
}

// sumOf returns what a walk along bounds of a world adds up to, and the places where it begins and ends.
func sumOf(m model, l []api.Bound) (sum int, from, to [2]int, is bool) {
	if len(l) == 0 || len(l) > 30000 {
		return 0, from, to, false
	}
	from = [2]int{l[0].From, l[0].FromAt}
	to = from
	for _, b := range l {
		if to != [2]int{b.From, b.FromAt} || !slices.Contains(m.bounds, b) {
			return 0, from, to, false
		}
		sum += b.Most
		to = [2]int{b.To, b.ToAt}
	}
	return sum, from, to, true
}

func isLoop(m model, l []api.Bound) bool {
	sum, from, to, is := sumOf(m, l)
	return is && from == to && sum < 0
}

// pathSum returns what a path proves of an end of a place, in the chapter's words.
func pathSum(m model, slice, cell int, high bool, l []api.Bound) (int, bool) {
	sum, from, to, is := sumOf(m, l)
	ends := [2][2]int{from, to}
	if high {
		return sum, is && ends == [2][2]int{{-1, 0}, {cell, slice}}
	}
	return -sum, is && ends == [2][2]int{{cell, slice}, {-1, 0}}
}

// wander walks along bounds of a world, from a place, until it comes to another one; it does not always arrive.
func wander(rng *rand.Rand, m model, from, to [2]int) []api.Bound {
	var l []api.Bound
	for at := from; len(l) < 12 && (len(l) == 0 || at != to); {
		var next []api.Bound
		for _, b := range m.bounds {
			if at == [2]int{b.From, b.FromAt} {
				next = append(next, b)
			}
		}
		b := next[rng.Intn(len(next))]
		l = append(l, b)
		at = [2]int{b.To, b.ToAt}
	}
	return l
}

// spoil changes something of a list of bounds.
func spoil(rng *rand.Rand, l []api.Bound) []api.Bound {
	l = slices.Clone(l)
	i, d := rng.Intn(len(l)), 1-2*rng.Intn(2)
	switch rng.Intn(10) {
	case 0:
		return slices.Delete(l, i, i+1)
	case 1:
		return slices.Insert(l, i, l[i])
	case 2:
		slices.Reverse(l)
	case 3:
		l[i].From += d
	case 4:
		l[i].FromAt += d
	case 5:
		l[i].To += d
	case 6:
		l[i].ToAt += d
	case 7:
		l[i].Most += d
	case 8:
		l[i].Kind += d
	default:
		l[i].ID += d
	}
	return l
}

// P4.1, P4.3, W15: CheckLoop says of each of many lists of bounds whether it is a loop, as the chapter's words do; where one is, no heights keep its bounds.
func TestCheckLoop(t *testing.T) {
	rng := rand.New(rand.NewSource(15))
	loops, others := 0, 0
	eachWorld(t, 300, func(s api.Story, m model) {
		for range 30 {
			at := [2]int{rng.Intn(len(s.Start)), rng.Intn(len(s.Steps) + 1)}
			l := wander(rng, m, at, at)
			if rng.Intn(3) == 0 {
				l = spoil(rng, l)
			}
			is := must[bool](t, "CheckLoop")(wear.CheckLoop(s, m.world, l))
			if want := isLoop(m, l); is != want || is && m.lives {
				t.Errorf("CheckLoop of %v in %v: %v, want %v", l, m.world, is, want)
			}
			if is {
				loops++
			} else {
				others++
			}
		}
	})
	if loops < 50 || others < 50 {
		t.Errorf("%d loops and %d other lists are too few", loops, others)
	}
}

// P4.1, P4.4, W16, W17: Path proves just the end of the span in a world, in the eyes of CheckPath and in the chapter's words; a world that does not live has ErrClash.
func TestPaths(t *testing.T) {
	eachWorld(t, 300, func(s api.Story, m model) {
		for slice := range len(s.Steps) + 1 {
			for c := range s.Start {
				for _, high := range []bool{false, true} {
					l, e := wear.Path(s, m.world, slice, c, high)
					if !m.lives {
						if wantError(t, "Path", e, api.ErrClash); len(l) > 0 {
							t.Errorf("Path of %v: %v", m.world, l)
						}
						continue
					}
					wantError(t, "Path", e, api.OK)
					n, is := pathSum(m, slice, c, high, l)
					if k := must[int](t, "CheckPath")(wear.CheckPath(s, m.world, slice, c, high, l)); !is || n != endOf(m.span(slice, c), high) || k != n {
						t.Errorf("Path(%v, %d, %d, %v): %v proves %d, CheckPath says %d", m.world, slice, c, high, l, n, k)
					}
				}
			}
		}
	})
}

// P4.1, P4.4, W17: CheckPath says of each of many lists of bounds what it proves, or that it is no path, as the chapter's words do; in a world that lives, the span does not reach beyond what any path proves.
func TestCheckPath(t *testing.T) {
	rng := rand.New(rand.NewSource(17))
	paths, others := 0, 0
	eachWorld(t, 300, func(s api.Story, m model) {
		for range 30 {
			slice, c, high := rng.Intn(len(s.Steps)+1), rng.Intn(len(s.Start)), rng.Intn(2) == 0
			from, to := [2]int{-1, 0}, [2]int{c, slice}
			if !high {
				from, to = to, from
			}
			l := wander(rng, m, from, to)
			if rng.Intn(3) == 0 {
				l = spoil(rng, l)
			}
			n, e := wear.CheckPath(s, m.world, slice, c, high, l)
			if k, is := pathSum(m, slice, c, high, l); !is {
				others++
				if n != 0 || e != api.ErrProof {
					t.Errorf("CheckPath of %v, which is no path: %d, error %d", l, n, e)
				}
			} else if paths++; n != k || e != api.OK {
				t.Errorf("CheckPath of %v: %d, error %d, want %d", l, n, e, k)
			} else if x := m.span(slice, c); m.lives && (high && n < x.Hi || !high && n > x.Lo) {
				t.Errorf("the path %v proves %d of %v", l, n, x)
			}
		}
	})
	if paths < 200 || others < 200 {
		t.Errorf("%d paths and %d other lists are too few", paths, others)
	}
}

// longStory has a cell that nothing is done to, by a pass, and that nothing is known of otherwise.
func longStory() api.Story {
	return api.Story{
		Start:    []api.Span{{Lo: 0, Hi: 9}},
		Heaps:    []api.Span{{Lo: 1, Hi: 1}},
		Steps:    []api.Step{{Kind: api.StepPass, Times: []int{1}}},
		Readings: []api.Reading{{Slice: 1, A: 0, B: -1, Diff: api.Span{Lo: -5, Hi: 8}}, {Slice: 1, A: 0, B: -1, Diff: api.Span{Lo: 20, Hi: 20}}},
	}
}

// P4.1, W15, W17: 30000 bounds may be a loop or a path, one more may not; neither may none.
func TestGreatestLength(t *testing.T) {
	s := longStory()
	up := api.Bound{From: -1, To: 0, Most: 9, Kind: api.BoundStart}
	down := api.Bound{From: 0, To: 0, ToAt: 1, Most: -1, Kind: api.BoundStep}
	back := api.Bound{From: 0, FromAt: 1, To: 0, Most: 1, Kind: api.BoundStep}
	home := api.Bound{From: 0, FromAt: 1, To: -1, Most: -20, Kind: api.BoundReading, ID: 1}
	path := append([]api.Bound{up, down}, slices.Repeat([]api.Bound{back, down}, 14999)...)
	for _, x := range []struct {
		what string
		l    []api.Bound
		want api.Errno
	}{
		{"30000 bounds", path, api.OK},
		{"30002 bounds", append(slices.Clone(path), back, down), api.ErrProof},
		{"30001 bounds", append([]api.Bound{{From: -1, ToAt: 1, Most: 8, Kind: api.BoundReading}, back}, path[1:]...), api.ErrProof},
		{"no bounds", nil, api.ErrProof},
	} {
		n, e := wear.CheckPath(s, []int{1}, 1, 0, true, x.l)
		if wantError(t, x.what, e, x.want); e == api.OK && n != 8 {
			t.Errorf("%s prove %d", x.what, n)
		}
	}
	loop := append(slices.Clone(path[:29999]), api.Bound{From: 0, To: -1, Most: 0, Kind: api.BoundStart})
	if must[bool](t, "no loop")(wear.CheckLoop(s, []int{1}, loop)) {
		t.Error("a ring that adds up to 9 is a loop")
	}
	loop = slices.Repeat([]api.Bound{up, down, home}, 10000)
	if !must[bool](t, "30000 bounds")(wear.CheckLoop(s, []int{1}, loop)) {
		t.Error("30000 bounds are no loop")
	}
	if must[bool](t, "30003 bounds")(wear.CheckLoop(s, []int{1}, append(loop, up, down, home))) {
		t.Error("30003 bounds are a loop")
	}
	if must[bool](t, "no bounds")(wear.CheckLoop(s, []int{1}, nil)) {
		t.Error("no bounds are a loop")
	}
}

// P4.1, P4.4, P0.4, W18, W19: cases have one for each world, in order; each one is a loop of its world, or proves the end of its span or one that is within the story's; all prove just the end in the story.
func TestProve(t *testing.T) {
	eachLiving(t, 300, func(s api.Story, living []model) {
		for slice := range len(s.Steps) + 1 {
			for c := range s.Start {
				for _, high := range []bool{false, true} {
					want := endOf(hull(living, func(m model) api.Span { return m.span(slice, c) }), high)
					l := must[[]api.Case](t, "Prove")(wear.Prove(s, slice, c, high))
					if n := must[int](t, "CheckCases")(wear.CheckCases(s, slice, c, high, l)); n != want {
						t.Errorf("cases for %d, %d, %v prove %d, want %d", slice, c, high, n, want)
					}
					if n, is := casesSum(s, slice, c, high, l); !is || n != want {
						t.Errorf("cases for %d, %d, %v: %v", slice, c, high, l)
					}
				}
			}
		}
	})
}

// casesSum returns what cases prove, in the chapter's words.
func casesSum(s api.Story, slice, cell int, high bool, l []api.Case) (int, bool) {
	worlds := worldsOf(s)
	if len(l) != len(worlds) {
		return 0, false
	}
	var ends []int
	for i, x := range l {
		m := modelOf(s, worlds[i])
		n, is := pathSum(m, slice, cell, high, x.Path)
		if !slices.Equal(x.World, m.world) || x.Loop && !isLoop(m, x.Path) || !x.Loop && !is {
			return 0, false
		}
		if !x.Loop {
			ends = append(ends, n)
		}
	}
	if len(ends) == 0 {
		return 0, false
	}
	if high {
		return slices.Max(ends), true
	}
	return slices.Min(ends), true
}

// spoilCases changes something of cases.
func spoilCases(rng *rand.Rand, s api.Story, l []api.Case) []api.Case {
	l = slices.Clone(l)
	i := rng.Intn(len(l))
	switch rng.Intn(8) {
	case 0:
		return slices.Delete(l, i, i+1)
	case 1:
		return slices.Insert(l, i, l[i])
	case 2:
		slices.Reverse(l)
	case 3:
		l[i].Loop = !l[i].Loop
	case 4:
		l[i].World = append(slices.Clone(l[i].World), 1)
	case 5:
		l[i].Path = spoil(rng, l[i].Path)
	case 6:
		l[i].Path = l[rng.Intn(len(l))].Path
	default:
		m := modelOf(s, worldsOf(s)[i])
		b := l[i].Path[len(l[i].Path)-1]
		l[i].Path = append(slices.Clone(l[i].Path), wander(rng, m, [2]int{b.To, b.ToAt}, [2]int{b.To, b.ToAt})...)
	}
	return l
}

// P4.1, P4.4, W19: CheckCases says of each of many lists of cases what it proves, or ErrProof, as the chapter's words do; no span reaches beyond what any cases prove.
func TestCheckCases(t *testing.T) {
	rng := rand.New(rand.NewSource(19))
	good, bad := 0, 0
	eachLiving(t, 300, func(s api.Story, living []model) {
		for range 20 {
			slice, c, high := rng.Intn(len(s.Steps)+1), rng.Intn(len(s.Start)), rng.Intn(2) == 0
			x := hull(living, func(m model) api.Span { return m.span(slice, c) })
			l := spoilCases(rng, s, must[[]api.Case](t, "Prove")(wear.Prove(s, slice, c, high)))
			n, e := wear.CheckCases(s, slice, c, high, l)
			if k, is := casesSum(s, slice, c, high, l); !is {
				if bad++; n != 0 || e != api.ErrProof {
					t.Errorf("CheckCases of %v, which are none: %d, error %d", l, n, e)
				}
			} else if good++; n != k || e != api.OK || high && n < x.Hi || !high && n > x.Lo {
				t.Errorf("CheckCases of %v: %d, error %d, want %d; the span is %v", l, n, e, k, x)
			}
		}
	})
	if good < 100 || bad < 100 {
		t.Errorf("%d lists of cases and %d others are too few", good, bad)
	}
}

// P4.1, W19: where no world lives, loops for all of them prove nothing; a path in such a world is still a path.
func TestCasesWithoutLife(t *testing.T) {
	s := contradictory()
	var l []api.Case
	for _, w := range worldsOf(s) {
		l = append(l, api.Case{World: w, Loop: true, Path: must[[]api.Bound](t, "Loop")(wear.Loop(s, w))})
	}
	n, e := wear.CheckCases(s, 0, 1, true, l)
	if wantError(t, "loops only", e, api.ErrProof); n != 0 {
		t.Errorf("loops only prove %d", n)
	}
	path := []api.Bound{{From: -1, To: 1, Most: 110, Kind: api.BoundStart, ID: 1}}
	l[1] = api.Case{World: []int{3}, Path: path}
	if n := must[int](t, "CheckCases")(wear.CheckCases(s, 0, 1, true, l)); n != 110 {
		t.Errorf("two loops and a path prove %d", n)
	}
	if n := must[int](t, "CheckPath")(wear.CheckPath(s, []int{3}, 0, 1, true, path)); n != 110 {
		t.Errorf("the path proves %d", n)
	}
}
