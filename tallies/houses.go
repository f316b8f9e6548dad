package tallies

import (
	"maps"
	"slices"

	"millrind/api"
	"millrind/history"
)

// House writes down notes.
type House struct {
	frame api.Frame
	id    int
	notes map[api.Name]api.Note
	stick Stick
}

// NewHouse returns a house without notes.
func NewHouse(f api.Frame, id int) (*House, api.Errno) {
	if !isFromTo(id, 1, api.MaxHouses) || !isFrame(f) {
		return nil, api.ErrArg
	}
	return newHouse(f, id), api.OK
}

func newHouse(f api.Frame, id int) *House {
	return &House{frame: f, id: id, notes: map[api.Name]api.Note{}}
}

// isFrame asks of no notes whether they are a set: that depends on the frame alone.
func isFrame(f api.Frame) bool {
	e, _ := history.CheckSet(f, nil)
	return e == api.OK
}

func (h *House) isMade() bool { return h != nil && h.notes != nil }

// Do adds a note of the house's own.
func (h *House) Do(n api.Note) (api.Note, api.Errno) {
	if !h.isMade() {
		return api.Note{}, api.ErrArg
	}
	n.House, n.Num, n.Clock = h.id, h.counts()[h.id-1]+1, h.clock()+1
	if e := h.checkOwn(n); e != api.OK {
		return api.Note{}, e
	}
	h.add(n)
	return clone(n), api.OK
}

// Sync makes all notes durable.
func (h *House) Sync() {
	if h.isMade() {
		h.stick.Sync()
	}
}

// Notes returns the notes that the house knows.
func (h *House) Notes() []api.Note { return h.Missing(nil) }

// Counts returns how many notes of each house it knows.
func (h *House) Counts() []int {
	if !h.isMade() {
		return nil
	}
	counts := h.counts()
	return slices.Clone(counts[:])
}

// Missing returns the notes that one with some counts lacks.
func (h *House) Missing(counts []int) []api.Note {
	if !h.isMade() {
		return nil
	}
	var l []api.Note
	for i, known := range h.counts() {
		first := 1
		if i < len(counts) {
			first = max(1, min(counts[i], known)+1)
		}
		for num := first; num <= known; num++ {
			l = append(l, clone(h.notes[api.Name{House: i + 1, Num: num}]))
		}
	}
	return l
}

// Hear adds notes of others.
func (h *House) Hear(l []api.Note) (int, api.Errno) {
	if !h.isMade() {
		return 0, api.ErrArg
	}
	for _, n := range l {
		if history.CheckNote(h.frame, n) != api.OK {
			return 0, api.ErrNote
		}
	}
	news, e := h.news(l)
	if e != api.OK {
		return 0, e
	}
	for _, n := range news {
		h.add(n)
	}
	return len(news), api.OK
}

// Crash loses what is pending.
func (h *House) Crash(stock, foil, flip int) api.Errno {
	if !h.isMade() {
		return api.ErrArg
	}
	if e := h.stick.Crash(stock, foil, flip); e != api.OK {
		return e
	}
	again := newHouse(h.frame, h.id)
	for _, b := range h.stick.Tallies() {
		n, e := Decode(h.frame, b)
		if e != api.OK {
			break
		}
		if added, _ := again.Hear([]api.Note{n}); added == 0 {
			break
		}
	}
	again.Sync()
	*h = *again
	return api.OK
}

// counts returns how many notes of each house are known: as none of them is left out, these are also their greatest Nums.
func (h *House) counts() [api.MaxHouses]int {
	var counts [api.MaxHouses]int
	for name := range h.notes {
		counts[name.House-1]++
	}
	return counts
}

// clock returns the greatest Clock of the notes that are known.
func (h *House) clock() int {
	last := 0
	for _, n := range h.notes {
		last = max(last, n.Clock)
	}
	return last
}

// checkOwn returns what is wrong with the next note of the house's own.
func (h *House) checkOwn(n api.Note) api.Errno {
	if len(h.notes) == api.MaxNotes || n.Clock > api.MaxClock {
		return api.ErrLimit
	}
	if history.CheckNote(h.frame, n) != api.OK {
		return api.ErrNote
	}
	if n.Kind != api.NoteCorrect && n.Kind != api.NoteWithdraw && h.conflicts(n) {
		return api.ErrPlace
	}
	return api.OK
}

// conflicts reports whether a further note would be a conflict in the house's register.
func (h *House) conflicts(n api.Note) bool {
	all, e := history.Merge(h.frame, h.Notes(), []api.Note{n})
	if e != api.OK {
		return true
	}
	r, e := history.Fold(h.frame, all)
	return e != api.OK || slices.Contains(r.Conflicts, nameOf(n))
}

// news returns those of some well-formed notes that are to be added, in order.
func (h *House) news(l []api.Note) ([]api.Note, api.Errno) {
	var news []api.Note
	all, counts := maps.Clone(h.notes), h.counts()
	for _, n := range l {
		known, is := all[nameOf(n)]
		if is && !areEqual(n, known) {
			return nil, api.ErrFork
		}
		if is || n.Num > counts[n.House-1]+1 {
			continue
		}
		all[nameOf(n)] = n
		counts[n.House-1]++
		news = append(news, n)
	}
	if len(all) > api.MaxNotes {
		return nil, api.ErrLimit
	}
	return news, api.OK
}

// add adds a note and its tally. (MaxNotes notes never fill a journal.)
func (h *House) add(n api.Note) {
	h.notes[nameOf(n)] = clone(n)
	h.stick.Write(appendNote(nil, n))
}
