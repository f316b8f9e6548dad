package crossing_test

import (
	"slices"

	"millrind/api"
)

// model says of a small valid pair what the chapter's terms say, as literally as can be.
type model struct {
	p              api.Pair
	rings, sectors int
	states         []api.State // by number
	safe           map[api.State]bool
}

func modelOf(p api.Pair) model {
	m := model{p: p, rings: p.Bed.Rings, sectors: p.Bed.Sectors, safe: map[api.State]bool{}}
	for turn := range m.sectors {
		for ring := range m.rings {
			for sector := range m.sectors {
				m.states = append(m.states, api.State{Ring: ring, Sector: sector, Turn: turn})
			}
		}
	}
	// A state is not trapped if and only if none to which its moves come is.
	for grown := true; grown; {
		grown = false
		for _, s := range m.states {
			if !m.safe[s] && m.allSafe(s) {
				m.safe[s], grown = true, true
			}
		}
	}
	return m
}

func (m model) allSafe(s api.State) bool {
	for _, move := range m.moves(s) {
		if to, out := m.next(s, move); !out && !m.safe[to] {
			return false
		}
	}
	return true
}

// wrap takes a number modulo the sectors.
func (m model) wrap(n int) int { return ((n % m.sectors) + m.sectors) % m.sectors }

func (m model) number(s api.State) int { return slices.Index(m.states, s) }

func (m model) over(s api.State) (int, int) {
	return m.p.Bed.Kinds[s.Ring*m.sectors+s.Sector], m.p.Runner.Kinds[s.Ring*m.sectors+m.wrap(s.Sector-s.Turn)]
}

func (m model) moves(s api.State) []api.Move {
	bed, runner := m.over(s)
	return m.p.Drive[3*bed+runner]
}

func (m model) next(s api.State, move api.Move) (api.State, bool) {
	ring := s.Ring + move.Out
	if ring == m.rings {
		return api.State{}, true
	}
	if ring < 0 {
		ring = 0
	}
	return api.State{Ring: ring, Sector: m.wrap(s.Sector + move.Side), Turn: m.wrap(s.Turn + 1)}, false
}

func (m model) entries() []api.State {
	var l []api.State
	for _, s := range m.states {
		if s.Ring == 0 {
			l = append(l, s)
		}
	}
	return l
}

func (m model) free() bool {
	for _, s := range m.entries() {
		if !m.safe[s] {
			return false
		}
	}
	return true
}

// reach grows a set until it has all to which its moves come.
func (m model) reach(from []api.State) []int {
	in := map[api.State]bool{}
	for _, s := range from {
		in[s] = true
	}
	for grown := true; grown; {
		grown = false
		for _, s := range m.states {
			if !in[s] {
				continue
			}
			for _, move := range m.moves(s) {
				if to, out := m.next(s, move); !out && !in[to] {
					in[to], grown = true, true
				}
			}
		}
	}
	var l []int
	for i, s := range m.states {
		if in[s] {
			l = append(l, i)
		}
	}
	return l
}

// trails returns all trails from a state that is not trapped, in order, or nothing if there are more than most.
func (m model) trails(s api.State, most int) [][]api.Move {
	var all [][]api.Move
	var walk func(s api.State, way []api.Move)
	walk = func(s api.State, way []api.Move) {
		for _, move := range m.moves(s) {
			if len(all) > most {
				return
			}
			further := append(slices.Clone(way), move)
			if to, out := m.next(s, move); out {
				all = append(all, further)
			} else {
				walk(to, further)
			}
		}
	}
	walk(s, nil)
	if len(all) > most {
		return nil
	}
	return all
}

// follow returns the states of a course, and how many of its moves leave; or false if it is none.
func (m model) follow(s api.State, course []api.Move) (states []api.State, leave int, ok bool) {
	states = append(states, s)
	for _, move := range course {
		if leave > 0 || !slices.Contains(m.moves(s), move) {
			return nil, 0, false
		}
		to, out := m.next(s, move)
		if out {
			leave++
			continue
		}
		s = to
		states = append(states, s)
	}
	return states, leave, true
}

func (m model) isLoop(s api.State, course []api.Move) bool {
	states, leave, ok := m.follow(s, course)
	last := len(states) - 1
	return ok && leave == 0 && len(course) > 0 && slices.Contains(states[:last], states[last])
}

func (m model) isTrail(s api.State, course []api.Move) bool {
	_, leave, ok := m.follow(s, course)
	return ok && leave == 1
}

func (m model) isRankTable(l []int) bool {
	if len(l) != len(m.states) {
		return false
	}
	for i, s := range m.states {
		if s.Ring == 0 && l[i] < 1 {
			return false
		}
		if l[i] < 1 {
			continue
		}
		for _, move := range m.moves(s) {
			if to, out := m.next(s, move); !out && (l[m.number(to)] < 1 || l[m.number(to)] >= l[i]) {
				return false
			}
		}
	}
	return true
}

func (m model) isCutTable(n int, l []int) bool {
	if len(l) != len(m.states) {
		return false
	}
	for i, s := range m.states {
		if l[i] < -1 || l[i] > api.MaxStates || s.Ring == 0 && (l[i] < 0 || l[i] < n) {
			return false
		}
		if l[i] < 0 {
			continue
		}
		for _, move := range m.moves(s) {
			granted := 0
			if to, out := m.next(s, move); !out {
				granted = l[m.number(to)]
				if granted < 0 {
					return false
				}
			}
			if move.Cut {
				granted++
			}
			if l[i] > granted {
				return false
			}
		}
	}
	return true
}

func cutsOf(l []api.Move) int {
	n := 0
	for _, move := range l {
		if move.Cut {
			n++
		}
	}
	return n
}
