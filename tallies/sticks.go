package tallies

import "millrind/api"

// journal is bytes of which the first ones are durable, and the others pending.
type journal struct {
	bytes   []byte
	durable int
}

type stockJournal struct{ journal }

type foilJournal struct{ journal }

// Stick is two journals, the stock and the foil, with bytes that are durable and bytes that are pending.
type Stick struct {
	stockJournal
	foilJournal
}

// NewStick returns two empty journals.
func NewStick() *Stick { return &Stick{} }

// Write writes a tally.
func (t *Stick) Write(b []byte) api.Errno {
	if t == nil {
		return api.ErrArg
	}
	stock, foil, e := Notch(b)
	if e != api.OK {
		return e
	}
	if !t.stockJournal.holds(stock) || !t.foilJournal.holds(foil) {
		return api.ErrLimit
	}
	t.stockJournal.add(stock)
	t.foilJournal.add(foil)
	return api.OK
}

// Sync makes all bytes durable.
func (t *Stick) Sync() {
	if t == nil {
		return
	}
	t.stockJournal.sync()
	t.foilJournal.sync()
}

// Tallies returns what both journals tell together.
func (t *Stick) Tallies() [][]byte {
	if t == nil {
		return nil
	}
	l, _, _ := Join(t.stockJournal.bytes, t.foilJournal.bytes)
	return l
}

// Sizes returns how many bytes of each journal are durable, and pending.
func (t *Stick) Sizes() (stock, stockPending, foil, foilPending int) {
	if t == nil {
		return 0, 0, 0, 0
	}
	return t.stockJournal.durable, t.stockJournal.pending(), t.foilJournal.durable, t.foilJournal.pending()
}

// Crash loses pending bytes.
func (t *Stick) Crash(stock, foil, flip int) api.Errno {
	if t == nil || !isFromTo(stock, 0, t.stockJournal.pending()) || !isFromTo(foil, 0, t.foilJournal.pending()) {
		return api.ErrArg
	}
	if !isFromTo(flip, -1, 8*(stock+foil)-1) {
		return api.ErrArg
	}
	switch {
	case flip == -1:
	case flip < 8*stock:
		t.stockJournal.invert(flip)
	default:
		t.foilJournal.invert(flip - 8*stock)
	}
	t.stockJournal.keep(stock)
	t.foilJournal.keep(foil)
	return api.OK
}

// holds reports whether there is room for more bytes.
func (j *journal) holds(more []byte) bool { return len(j.bytes)+len(more) <= api.MaxDisk }

func (j *journal) add(b []byte) { j.bytes = append(j.bytes, b...) }

func (j *journal) sync() { j.durable = len(j.bytes) }

func (j *journal) pending() int { return len(j.bytes) - j.durable }

// invert inverts a bit of the pending bytes.
func (j *journal) invert(bit int) { j.bytes[j.durable+bit/8] ^= 1 << (bit % 8) }

// keep loses all but the first pending bytes, and makes these durable.
func (j *journal) keep(size int) {
	j.bytes = j.bytes[:j.durable+size]
	j.sync()
}

func isFromTo(n, least, most int) bool { return least <= n && n <= most }
