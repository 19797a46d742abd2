package buffer

import (
	"slices"

	"switchback/api"
	"switchback/slot"
)

// keeper keeps a buffer, and what went out of it.
type keeper struct {
	api.Buffer
	out []api.Slot
}

// keep a copy of a buffer, because what was handed in is only read.
func keep(b api.Buffer) keeper {
	b.Held = slot.CopyAll(b.Held)
	return keeper{Buffer: b}
}

func (k *keeper) put(x api.Slot) {
	if k.Next == 0 {
		k.Next = x.N
	}
	if x.N < k.Next || k.holds(x.N) {
		return
	}
	k.hold(x)
	k.letOut()
	k.giveUpTo(api.MaxHeld)
}

func (k *keeper) holds(n int) bool {
	return slices.ContainsFunc(k.Held, func(h api.Slot) bool { return h.N == n })
}

// hold a slot, ahead of the first one with a greater number.
func (k *keeper) hold(x api.Slot) {
	at := slices.IndexFunc(k.Held, func(h api.Slot) bool { return h.N > x.N })
	if at < 0 {
		at = len(k.Held)
	}
	k.Held = slices.Insert(k.Held, at, x)
}

// letOut all whose turn it is.
func (k *keeper) letOut() {
	for len(k.Held) > 0 && k.Held[0].N == k.Next {
		k.out = append(k.out, k.Held[0])
		k.Held = k.Held[1:]
		k.Next++
	}
}

// giveUpTo gives up what is missing till at most so many are held.
func (k *keeper) giveUpTo(most int) {
	for len(k.Held) > most {
		k.Next = k.Held[0].N
		k.letOut()
	}
}
