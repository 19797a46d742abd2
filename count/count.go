// Package count: numbers that go round: see doc/02-count.md.
package count

import "switchback/api"

const (
	round    = api.MaxSeq + 1 // so many numbers, and they are at 0 again
	farthest = round / 2      // a number is looked for at most so far ahead of the last one
)

// Wrap a number.
func Wrap(n int) (int, api.Errno) {
	if !isNumber(n) {
		return 0, api.ErrRange
	}
	return n % round, api.OK
}

// Unwrap a number.
func Unwrap(last, seq int) (int, api.Errno) {
	if !isNumber(last) || seq < 0 || seq > api.MaxSeq {
		return 0, api.ErrRange
	}
	// A whole round is added so that the rest is that of a number from 0 on.
	ahead := (seq - last%round + round) % round
	if ahead > farthest {
		ahead -= round
	}
	n := last + ahead
	if !isNumber(n) {
		return 0, api.ErrRange
	}
	return n, api.OK
}

// All numbers.
func All(first int, l []int) ([]int, api.Errno) {
	f := follower{last: first}
	return eachBecomes(l, f.next)
}

// follower knows the number that the next one is found by.
type follower struct{ last int }

func (f *follower) next(seq int) (int, api.Errno) {
	n, e := Unwrap(f.last, seq)
	f.last = n
	return n, e
}

// eachBecomes tells what becomes of each number, up to the first error.
func eachBecomes(l []int, become func(int) (int, api.Errno)) ([]int, api.Errno) {
	var out []int
	for _, x := range l {
		n, e := become(x)
		if e != api.OK {
			return nil, e
		}
		out = append(out, n)
	}
	return out, api.OK
}

func isNumber(n int) bool { return n >= api.MinN && n <= api.MaxN }
