package tallies

import (
	"millrind/api"
	"millrind/numbers"
)

// The numbers with which messages begin.
const (
	anAsk = 1
	aGift = 2
)

// message is what a mail says: an ask has counts, a gift has notes.
type message struct {
	kind   int
	counts []int
	notes  []api.Note
}

// open returns what a mail between houses of a frame says.
func open(f api.Frame, m api.Mail) (message, api.Errno) {
	var x message
	e := read(m.Body, func(r *reader) {
		x.kind = r.number()
		switch x.kind {
		case anAsk:
			x.counts = r.list()
		case aGift:
			x.notes = r.notes(f)
		default:
			r.need(false)
		}
	})
	return x, e
}

func askOf(counts []int) []byte { return appendList(numbers.Append(nil, anAsk), counts) }

func giftOf(notes []api.Note) []byte {
	b := numbers.Append(numbers.Append(nil, aGift), len(notes))
	for _, n := range notes {
		note := appendNote(nil, n)
		b = append(numbers.Append(b, len(note)), note...)
	}
	return b
}
