// Package raw: bytes one behind the other, for the layers that tell things as bytes: wire and disk.
package raw

import "strings"

// tooFew is what a reader panics with, a type of its own so that no other panic is taken for it.
type tooFew struct{}

// Reader takes bytes off the front of a text.
type Reader struct{ rest string }

// Take the next bytes; a panic tells that they are not there, so that who reads need not ask at each step.
func (r *Reader) Take(size int) string {
	if size > len(r.rest) {
		panic(tooFew{})
	}
	taken := r.rest[:size]
	r.rest = r.rest[size:]
	return taken
}

// Number of so many bytes, the greatest first.
func (r *Reader) Number(size int) int {
	n := 0
	for _, c := range []byte(r.Take(size)) {
		n = n<<8 | int(c)
	}
	return n
}

// Text of so many bytes: a copy, because an answer shares no memory with what was handed in.
func (r *Reader) Text(size int) string {
	return strings.Clone(r.Take(size))
}

// Read tells what is left of s behind the bytes that read asks for, and whether they were all there.
func Read(s string, read func(*Reader)) (left string, found bool) {
	defer func() {
		caught := recover()
		if caught == nil {
			return
		}
		if _, few := caught.(tooFew); !few {
			// A fault of the program must not pass for wrong bytes.
			panic(caught)
		}
		left, found = "", false
	}()
	r := Reader{rest: s}
	read(&r)
	return r.rest, true
}
