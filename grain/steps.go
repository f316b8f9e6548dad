package grain

import (
	"slices"

	"millrind/api"
)

// chart is a valid mill, laid out as long as a call lasts. Its states and moves are those of crossing.Moves and crossing.Next, which check the whole pair with each call: too often for each step of many trails.
type chart struct {
	pair api.Pair
	gap  []int
}

func chartOf(m api.Mill) *chart { return &chart{m.Pair, m.Gap} }

// Halved returns the size of a grain that was cut so often.
func Halved(size, times int) (int, api.Errno) {
	if !isSize(size) || times < 0 || times > api.MaxTrail {
		return 0, api.ErrArg
	}
	return halved(size, times), api.OK
}

// Bites reports whether a grain is bitten.
func Bites(m api.Mill, g api.Grain) (bool, api.Errno) {
	if e := checkGrain(m, g); e != api.OK {
		return false, e
	}
	return chartOf(m).bites(g.At, g.Size), api.OK
}

// After returns a grain behind a move.
func After(m api.Mill, g api.Grain, x api.Move) (to api.Grain, out bool, e api.Errno) {
	if e := checkGrain(m, g); e != api.OK {
		return api.Grain{}, false, e
	}
	c := chartOf(m)
	if !slices.Contains(c.moves(g.At), x) {
		return api.Grain{}, false, api.ErrArg
	}
	to, out = c.step(g, x)
	return to, out, api.OK
}

func halved(size, times int) int {
	for ; times > 0 && size > 1; times-- {
		size = (size + 1) / 2
	}
	return size
}

// cell returns the index of the cell of a ring at a sector, also at one beyond either end.
func (c *chart) cell(ring, sector int) int {
	return ring*c.pair.Bed.Sectors + c.round(sector)
}

func (c *chart) round(n int) int {
	sectors := c.pair.Bed.Sectors
	return (n + sectors) % sectors
}

func (c *chart) moves(s api.State) []api.Move {
	bed := c.pair.Bed.Kinds[c.cell(s.Ring, s.Sector)]
	runner := c.pair.Runner.Kinds[c.cell(s.Ring, s.Sector-s.Turn)]
	return c.pair.Drive[api.Kinds*bed+runner]
}

// next returns the state to which a move leads, or true if it leaves.
func (c *chart) next(s api.State, x api.Move) (to api.State, out bool) {
	if s.Ring+x.Out == c.pair.Bed.Rings {
		return api.State{}, true
	}
	return api.State{Ring: max(0, s.Ring+x.Out), Sector: c.round(s.Sector + x.Side), Turn: c.round(s.Turn + 1)}, false
}

func (c *chart) bites(s api.State, size int) bool {
	return c.gap[c.cell(s.Ring, s.Sector)] < size
}

// cuts returns how often a grain of a size is cut in a step from a state: once or not at all.
func (c *chart) cuts(s api.State, size int, x api.Move) int {
	if x.Cut && c.bites(s, size) {
		return 1
	}
	return 0
}

// step returns a grain after a step, and whether it leaves.
func (c *chart) step(g api.Grain, x api.Move) (to api.Grain, out bool) {
	cuts := c.cuts(g.At, g.Size, x)
	at, out := c.next(g.At, x)
	return api.Grain{At: at, Size: halved(g.Size, cuts), Cuts: g.Cuts + cuts}, out
}
