package track

import (
	"switchback/api"
	"switchback/buffer"
	"switchback/count"
	"switchback/frame"
	"switchback/store"
	"switchback/wire"
)

// taker takes packets into a track that is right.
type taker struct {
	api.Track
	closed int // how many groups
}

func (k *taker) feed(s string) api.Errno {
	p, e := wire.Decode(s)
	if e != api.OK {
		return e
	}
	n, e := k.numberOf(p)
	if e != api.OK {
		return e
	}
	k.Last = max(k.Last, n)
	return k.pass(buffer.Put(k.Buffer, api.Slot{N: n, P: p}))
}

func (k *taker) drain() api.Errno {
	return k.pass(buffer.Flush(k.Buffer))
}

// numberOf a packet, that does not go round.
func (k *taker) numberOf(p api.Packet) (int, api.Errno) {
	if k.Last == 0 {
		return p.Seq + api.MinN, api.OK
	}
	return count.Unwrap(k.Last, p.Seq)
}

// pass on what went out of the buffer.
func (k *taker) pass(b api.Buffer, turns []api.Slot, e api.Errno) api.Errno {
	k.Buffer = b
	for _, x := range turns {
		if e := k.add(x); e != api.OK {
			return e
		}
	}
	return e
}

// add a slot, and the frame that comes of it.
func (k *taker) add(x api.Slot) api.Errno {
	b, f, whole, e := frame.Add(k.Builder, x)
	k.Builder = b
	if whole {
		return k.keep(f)
	}
	return e
}

func (k *taker) keep(f api.Frame) api.Errno {
	s, closed, e := store.Add(k.Store, f)
	k.Store = s
	if closed {
		k.closed++
	}
	return e
}
