package tallies

import (
	"slices"

	"millrind/api"
	"millrind/history"
)

// World is houses that send one another messages.
type World struct {
	frame  api.Frame
	houses []*House
	mails  []api.Mail
}

// NewWorld returns houses without notes.
func NewWorld(f api.Frame, n int) (*World, api.Errno) {
	if !isFromTo(n, 1, api.MaxHouses) || !isFrame(f) {
		return nil, api.ErrArg
	}
	w := &World{frame: f}
	for id := 1; id <= n; id++ {
		w.houses = append(w.houses, newHouse(f, id))
	}
	return w, api.OK
}

func (w *World) isMade() bool { return w != nil && w.houses != nil }

// Step lets something happen.
func (w *World) Step(a api.Act) api.Errno {
	if !w.isMade() {
		return api.ErrArg
	}
	acts := map[int]func(api.Act) api.Errno{
		api.ActDo:      w.do,
		api.ActSync:    w.sync,
		api.ActAsk:     w.ask,
		api.ActDeliver: w.deliver,
		api.ActLose:    w.lose,
		api.ActDouble:  w.double,
		api.ActCrash:   w.crash,
	}
	act, is := acts[a.Kind]
	if !is {
		return api.ErrArg
	}
	return act(a)
}

// Settle lets all houses know all notes.
func (w *World) Settle() api.Errno {
	if !w.isMade() {
		return api.ErrArg
	}
	var all []api.Note
	for _, h := range w.houses {
		both, e := history.Merge(w.frame, all, h.Notes())
		if e != api.OK {
			return e
		}
		all = both
	}
	// All sync ahead of the first one that hears: what a house hears cannot be lost where it comes from.
	for _, h := range w.houses {
		h.Sync()
	}
	for _, h := range w.houses {
		h.Hear(all)
		h.Sync()
	}
	return api.OK
}

// Notes returns the notes that a house knows.
func (w *World) Notes(house int) ([]api.Note, api.Errno) {
	if !w.isMade() {
		return nil, api.ErrArg
	}
	if !w.has(house) {
		return nil, api.ErrNone
	}
	return w.house(house).Notes(), api.OK
}

// Mails returns the messages that are under way.
func (w *World) Mails() []api.Mail {
	if !w.isMade() {
		return nil
	}
	l := slices.Clone(w.mails)
	for i := range l {
		l[i].Body = slices.Clone(l[i].Body)
	}
	return l
}

func (w *World) has(house int) bool { return isFromTo(house, 1, len(w.houses)) }

func (w *World) house(id int) *House { return w.houses[id-1] }

func (w *World) hasMail(index int) bool { return isFromTo(index, 0, len(w.mails)-1) }

func (w *World) isFull() bool { return len(w.mails) >= api.MaxMail }

func (w *World) send(from, to int, body []byte) {
	w.mails = append(w.mails, api.Mail{From: from, To: to, Body: body})
}

func (w *World) do(a api.Act) api.Errno {
	if !w.has(a.House) {
		return api.ErrArg
	}
	n, e := w.house(a.House).Do(a.Note)
	if e != api.OK {
		return e
	}
	if n.Kind == api.NotePass || n.Kind == api.NoteStrokes {
		w.house(a.House).Sync()
	}
	return api.OK
}

func (w *World) sync(a api.Act) api.Errno {
	if !w.has(a.House) {
		return api.ErrArg
	}
	w.house(a.House).Sync()
	return api.OK
}

func (w *World) ask(a api.Act) api.Errno {
	if !w.has(a.House) || !w.has(a.To) || a.House == a.To {
		return api.ErrArg
	}
	if w.isFull() {
		return api.ErrLimit
	}
	w.send(a.House, a.To, askOf(w.house(a.House).Counts()))
	return api.OK
}

func (w *World) deliver(a api.Act) api.Errno {
	if !w.hasMail(a.Index) {
		return api.ErrNone
	}
	m := w.mails[a.Index]
	x, e := open(w.frame, m)
	if e != api.OK {
		return e
	}
	if x.kind == aGift {
		if _, e := w.house(m.To).Hear(x.notes); e != api.OK {
			return e
		}
		return w.lose(a)
	}
	w.lose(a)
	w.answer(m, x.counts)
	return api.OK
}

// answer sends the first ones of the notes that one who asks lacks.
func (w *World) answer(m api.Mail, counts []int) {
	h := w.house(m.To)
	h.Sync() // what is sent must not be lost here, or another note would get its name
	if notes := h.Missing(counts); len(notes) > 0 {
		w.send(m.To, m.From, giftOf(notes[:min(len(notes), api.MaxGift)]))
	}
}

func (w *World) lose(a api.Act) api.Errno {
	if !w.hasMail(a.Index) {
		return api.ErrNone
	}
	w.mails = slices.Delete(w.mails, a.Index, a.Index+1)
	return api.OK
}

func (w *World) double(a api.Act) api.Errno {
	if !w.hasMail(a.Index) {
		return api.ErrNone
	}
	if w.isFull() {
		return api.ErrLimit
	}
	m := w.mails[a.Index]
	w.send(m.From, m.To, m.Body)
	return api.OK
}

func (w *World) crash(a api.Act) api.Errno {
	if !w.has(a.House) {
		return api.ErrArg
	}
	return w.house(a.House).Crash(a.Keep, a.Flip, a.Index)
}
