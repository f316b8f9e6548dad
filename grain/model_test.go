package grain_test

import (
	"maps"
	"slices"

	"millrind/api"
	"millrind/crossing"
)

// model says of a small valid mill what the chapter's words say, as literally as can be.
type model struct {
	m    api.Mill
	sets map[api.Grain][]int
}

func modelOf(m api.Mill) model { return model{m, map[api.Grain][]int{}} }

// ok drops an error, which no call of the model has.
func ok[T any](v T, e api.Errno) T {
	if e != api.OK {
		panic(e)
	}
	return v
}

func (w model) states() []api.State {
	var l []api.State
	for i := range ok(crossing.States(w.m.Pair)) {
		l = append(l, ok(crossing.StateOf(w.m.Pair, i)))
	}
	return l
}

func (w model) entries() []api.State { return ok(crossing.Entries(w.m.Pair)) }

func (w model) trapped(s api.State) bool { return ok(crossing.Trapped(w.m.Pair, s)) }

func (w model) moves(s api.State) []api.Move { return ok(crossing.Moves(w.m.Pair, s)) }

func (w model) bites(g api.Grain) bool {
	return w.m.Gap[g.At.Ring*w.m.Pair.Bed.Sectors+g.At.Sector] < g.Size
}

func (w model) step(g api.Grain, x api.Move) (api.Grain, bool) {
	if x.Cut && w.bites(g) {
		g.Cuts++
		g.Size = (g.Size + 1) / 2
	}
	to, out, e := crossing.Next(w.m.Pair, g.At, x)
	if e != api.OK {
		panic(e)
	}
	g.At = to
	return g, out
}

// cutSet returns the cut set of a state that is not trapped.
func (w model) cutSet(s api.State, size int) []int {
	g := api.Grain{At: s, Size: size}
	if l, known := w.sets[g]; known {
		return l
	}
	set := map[int]bool{}
	for _, x := range w.moves(s) {
		to, out := w.step(g, x)
		if out {
			set[to.Cuts] = true
			continue
		}
		for _, n := range w.cutSet(to.At, to.Size) {
			set[to.Cuts+n] = true
		}
	}
	w.sets[g] = slices.Sorted(maps.Keys(set))
	return w.sets[g]
}

// entering returns the numbers of all cut sets of the entries and of sizes.
func (w model) entering(size api.Span) []int {
	set := map[int]bool{}
	for n := size.Lo; n <= size.Hi; n++ {
		for _, s := range w.entries() {
			for _, cuts := range w.cutSet(s, n) {
				set[cuts] = true
			}
		}
	}
	return slices.Sorted(maps.Keys(set))
}

// trails returns all trails from a state that is not trapped, in order, or nothing if there are more than most.
func (w model) trails(s api.State, most int) [][]api.Move {
	var all [][]api.Move
	var walk func(g api.Grain, way []api.Move)
	walk = func(g api.Grain, way []api.Move) {
		for _, x := range w.moves(g.At) {
			if len(all) > most {
				return
			}
			further := append(slices.Clone(way), x)
			if to, out := w.step(g, x); out {
				all = append(all, further)
			} else {
				walk(to, further)
			}
		}
	}
	walk(api.Grain{At: s, Size: 1}, nil)
	if len(all) > most {
		return nil
	}
	return all
}

// cutsOf returns the cuts of a trail, or false if the moves are none.
func (w model) cutsOf(s api.State, size int, l []api.Move) (int, bool) {
	g, out := api.Grain{At: s, Size: size}, false
	for _, x := range l {
		if out || !slices.Contains(w.moves(g.At), x) {
			return 0, false
		}
		g, out = w.step(g, x)
	}
	return g.Cuts, out
}

// gradeSet returns the grades of a list of numbers.
func gradeSet(grades, cuts []int) []int {
	set := map[int]bool{}
	for _, n := range cuts {
		grade := 0
		for i, mark := range grades {
			if mark <= n {
				grade = i
			}
		}
		set[grade] = true
	}
	return slices.Sorted(maps.Keys(set))
}

// sack fills a sack grain by grain.
func (w model) sack(grades []int, size api.Span, each int) api.Sack {
	sack := api.Sack{Least: make([]int, len(grades)), Most: make([]int, len(grades))}
	for n := size.Lo; n <= size.Hi; n++ {
		for _, s := range w.entries() {
			set := gradeSet(grades, w.cutSet(s, n))
			for range each {
				for _, grade := range set {
					sack.Most[grade]++
				}
				if len(set) == 1 {
					sack.Least[set[0]]++
				}
			}
		}
	}
	return sack
}
