package wire

import "strings"

// tooFew is what a reader panics with, a type of its own so that no other panic is taken for it.
type tooFew struct{}

// reader takes bytes off the front of a text.
type reader struct{ rest string }

// take the next bytes; a panic tells that they are not there, so that who reads need not ask at each step.
func (r *reader) take(size int) string {
	if size > len(r.rest) {
		panic(tooFew{})
	}
	taken := r.rest[:size]
	r.rest = r.rest[size:]
	return taken
}

// number of so many bytes, the greatest first.
func (r *reader) number(size int) int {
	n := 0
	for _, c := range []byte(r.take(size)) {
		n = n<<8 | int(c)
	}
	return n
}

// text of so many bytes: a copy, because an answer shares no memory with what was handed in.
func (r *reader) text(size int) string {
	return strings.Clone(r.take(size))
}

// readWhole tells whether read finds all the bytes that it asks s for, and leaves none.
func readWhole(s string, read func(*reader)) (whole bool) {
	defer func() {
		caught := recover()
		if caught == nil {
			return
		}
		if _, few := caught.(tooFew); !few {
			// A fault of the program must not pass for wrong bytes.
			panic(caught)
		}
		whole = false
	}()
	r := reader{rest: s}
	read(&r)
	return r.rest == ""
}
