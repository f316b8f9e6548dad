package crossing

import (
	"cmp"
	"iter"

	"millrind/api"
	"millrind/stones"
)

// away stands for the number of a state where a grain leaves instead.
const away = -1

// chart is a pair that is valid and not large, laid together as long as a call lasts.
type chart struct {
	rings, sectors int
	bed, runner    []int
	drive          [api.Kinds * api.Kinds][]api.Move
}

// chartOf lays a pair together, or returns what is wrong with it first.
func chartOf(p api.Pair) (*chart, api.Errno) {
	if !fits(p.Bed, p.Runner) || !validDrive(p.Drive) {
		return nil, api.ErrPair
	}
	c := &chart{rings: p.Bed.Rings, sectors: p.Bed.Sectors, bed: p.Bed.Kinds, runner: p.Runner.Kinds}
	if c.states() > api.MaxStates {
		return nil, api.ErrLimit
	}
	copy(c.drive[:], p.Drive)
	return c, api.OK
}

// chartAt does what chartOf does, and checks that a state is one of the pair.
func chartAt(p api.Pair, s api.State) (*chart, api.Errno) {
	c, e := chartOf(p)
	if e != api.OK {
		return nil, e
	}
	if !c.has(s) {
		return nil, api.ErrState
	}
	return c, api.OK
}

func fits(bed, runner api.Face) bool {
	return stones.Valid(bed) && stones.Valid(runner) && bed.Eye == runner.Eye && bed.Rings == runner.Rings && bed.Sectors == runner.Sectors
}

func validDrive(drive [][]api.Move) bool {
	if len(drive) != api.Kinds*api.Kinds {
		return false
	}
	for _, list := range drive {
		if !validList(list) {
			return false
		}
	}
	return true
}

func validList(list []api.Move) bool {
	if len(list) < 1 || len(list) > api.MaxMoves {
		return false
	}
	for i, m := range list {
		if m.Out < -1 || m.Out > 1 || m.Side < -1 || m.Side > 1 {
			return false
		}
		if i > 0 && compareMoves(list[i-1], m) >= 0 {
			return false
		}
	}
	return true
}

func compareMoves(a, b api.Move) int {
	return cmp.Or(cmp.Compare(a.Out, b.Out), cmp.Compare(a.Side, b.Side), cmp.Compare(cutOf(a), cutOf(b)))
}

// cutOf returns how many cuts a move is.
func cutOf(m api.Move) int {
	if m.Cut {
		return 1
	}
	return 0
}

func (c *chart) states() int { return c.rings * c.sectors * c.sectors }

func (c *chart) has(s api.State) bool {
	return s.Ring >= 0 && s.Ring < c.rings && s.Sector >= 0 && s.Sector < c.sectors && s.Turn >= 0 && s.Turn < c.sectors
}

func (c *chart) number(s api.State) int { return (s.Turn*c.rings+s.Ring)*c.sectors + s.Sector }

func (c *chart) stateOf(i int) api.State {
	line := i / c.sectors
	return api.State{Ring: line % c.rings, Sector: i % c.sectors, Turn: line / c.rings}
}

// round returns the sector, or the turn, that is meant by one beyond either end.
func (c *chart) round(n int) int { return (n + c.sectors) % c.sectors }

// cells returns the indices of the bed's cell below a state and of the runner's cell above it.
func (c *chart) cells(s api.State) (bed, runner int) {
	ring := s.Ring * c.sectors
	return ring + s.Sector, ring + c.round(s.Sector-s.Turn)
}

func (c *chart) over(s api.State) (bed, runner int) {
	below, above := c.cells(s)
	return c.bed[below], c.runner[above]
}

func (c *chart) list(s api.State) []api.Move {
	bed, runner := c.over(s)
	return c.drive[api.Kinds*bed+runner]
}

func (c *chart) next(s api.State, m api.Move) (to api.State, out bool) {
	if s.Ring+m.Out == c.rings {
		return api.State{}, true
	}
	return api.State{Ring: max(0, s.Ring+m.Out), Sector: c.round(s.Sector + m.Side), Turn: c.round(s.Turn + 1)}, false
}

// moves yields the moves of the state with a number, each with the number of the state to which it comes, or away if it leaves.
func (c *chart) moves(i int) iter.Seq2[api.Move, int] {
	return func(yield func(api.Move, int) bool) {
		s := c.stateOf(i)
		for _, m := range c.list(s) {
			at := away
			if to, out := c.next(s, m); !out {
				at = c.number(to)
			}
			if !yield(m, at) {
				return
			}
		}
	}
}

// entries returns the numbers of all entries, increasing.
func (c *chart) entries() []int {
	var list []int
	for turn := range c.sectors {
		for sector := range c.sectors {
			list = append(list, c.number(api.State{Sector: sector, Turn: turn}))
		}
	}
	return list
}
