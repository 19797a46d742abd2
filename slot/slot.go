// Package slot: packets with their numbers, as the layers that pass them on need them: see C1 of doc/03-buffer.md.
package slot

import (
	"strings"

	"switchback/api"
	"switchback/count"
	"switchback/wire"
)

// Check a slot.
func Check(x api.Slot) api.Errno {
	seq, outside := count.Wrap(x.N)
	if outside != api.OK {
		return outside
	}
	if e := wire.Check(x.P); e != api.OK {
		return e
	}
	if x.P.Seq != seq {
		return api.ErrState
	}
	return api.OK
}

// CheckAll slots, and whether the one at each place fits there (ErrState, if not).
// Both are asked of one slot ahead of the next, because the first slot of which something is wrong tells (P1).
func CheckAll(l []api.Slot, fits func(i int) bool) api.Errno {
	for i, x := range l {
		if e := Check(x); e != api.OK {
			return e
		}
		if !fits(i) {
			return api.ErrState
		}
	}
	return api.OK
}

// Copy a slot, its text too, because an answer shares no memory with what was handed in.
func Copy(x api.Slot) api.Slot {
	x.P.Text = strings.Clone(x.P.Text)
	return x
}

// CopyAll slots.
func CopyAll(l []api.Slot) []api.Slot {
	var all []api.Slot
	for _, x := range l {
		all = append(all, Copy(x))
	}
	return all
}
