package tallies

import (
	"millrind/api"
	"millrind/numbers"
)

// reader reads what was encoded; it is left by a panic where the bytes are no encoding.
type reader struct{ rest []byte }

// read returns OK if a function reads just all of the bytes.
func read(b []byte, all func(r *reader)) (e api.Errno) {
	defer func() {
		if recover() != nil {
			e = api.ErrCode
		}
	}()
	r := &reader{rest: b}
	all(r)
	r.need(len(r.rest) == 0)
	return api.OK
}

func (r *reader) need(is bool) {
	if !is {
		panic(api.ErrCode)
	}
}

// take reads some bytes.
func (r *reader) take(size int) []byte {
	r.need(0 <= size && size <= len(r.rest))
	b := r.rest[:size]
	r.rest = r.rest[size:]
	return b
}

func (r *reader) number() int {
	n, rest, is := numbers.Take(r.rest)
	r.need(is)
	r.rest = rest
	return n
}

// size reads the length of a list, each element of which takes a byte or more: so a list is never longer than what was sent.
func (r *reader) size() int {
	n := r.number()
	r.need(0 <= n && n <= len(r.rest))
	return n
}

func (r *reader) list() []int {
	var l []int
	for range r.size() {
		l = append(l, r.number())
	}
	return l
}

func (r *reader) note() api.Note {
	var n api.Note
	for _, number := range ahead(&n) {
		*number = r.number()
	}
	n.Strokes = r.list()
	for _, number := range behind(&n) {
		*number = r.number()
	}
	return n
}

// notes reads a list of notes, each behind the length of its encoding.
func (r *reader) notes(f api.Frame) []api.Note {
	var l []api.Note
	for range r.size() {
		b := r.take(r.number())
		n, e := Decode(f, b)
		r.need(e == api.OK)
		l = append(l, n)
	}
	return l
}
