package books

import (
	"millrind/api"
	"millrind/numbers"
)

// modulus is what hashes are less than.
const modulus = 2147483629

// Hash returns the hash of bytes.
func Hash(b []byte) int {
	h := 11
	for _, x := range b {
		h = (263*h + int(x) + 1) % modulus
	}
	return h
}

// Encode returns a book as bytes.
func Encode(x api.Book) ([]byte, api.Errno) {
	w := &writer{}
	s := scribe[*writer]{pen: w}
	if !isWhole(func() { s.book(&x) }) {
		return nil, api.ErrLimit
	}
	return w.bytes, api.OK
}

// Decode returns the book of which bytes are the encoding.
func Decode(b []byte) (api.Book, api.Errno) {
	var x api.Book
	r := &reader{rest: b}
	s := scribe[*reader]{pen: r}
	all := func() {
		s.book(&x)
		need(len(r.rest) == 0)
	}
	if !isWhole(all) {
		return api.Book{}, api.ErrBytes
	}
	return x, api.OK
}

// isWhole reports whether a function comes to its end, and is not left by need.
func isWhole(f func()) (is bool) {
	defer func() {
		if recover() != nil {
			is = false
		}
	}()
	f()
	return true
}

// need leaves a function, unless what it needs is true.
func need(is bool) {
	if !is {
		panic(api.ErrBytes)
	}
}

// writer is a pen that writes what it is shown.
type writer struct{ bytes []byte }

func (w *writer) number(n *int) {
	need(numbers.Fits(*n))
	w.bytes = numbers.Append(w.bytes, *n)
}

func (w *writer) flag(is *bool) {
	n := 0
	if *is {
		n = 1
	}
	w.number(&n)
}

func (w *writer) size(n int) int {
	w.number(&n)
	return n
}

// reader is a pen that reads into what it is shown.
type reader struct{ rest []byte }

func (r *reader) number(n *int) {
	x, rest, is := numbers.Take(r.rest)
	need(is)
	*n, r.rest = x, rest
}

func (r *reader) flag(is *bool) {
	n := 0
	r.number(&n)
	need(n == 0 || n == 1)
	*is = n == 1
}

// size reads the length of a list, each element of which takes a byte or more: so a list is never longer than what is left.
func (r *reader) size(int) int {
	n := 0
	r.number(&n)
	need(0 <= n && n <= len(r.rest))
	return n
}
