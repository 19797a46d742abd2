// Package wire: packets as bytes: see doc/01-wire.md.
package wire

import (
	"switchback/api"
	"switchback/raw"
)

// The first byte of every packet is mark and the sum of its flags.
const (
	mark      = 128
	firstFlag = 1
	endFlag   = 2
	keyFlag   = 4
	greatest  = mark + firstFlag + endFlag + keyFlag
)

// How many bytes each number of a packet has.
const (
	headBytes  = 1
	seqBytes   = 2
	timeBytes  = 4
	countBytes = 1
)

// Check a packet.
func Check(p api.Packet) api.Errno {
	switch {
	case p.Seq < 0 || p.Seq > api.MaxSeq:
		return api.ErrRange
	case p.Time < 0 || p.Time > api.MaxTime:
		return api.ErrRange
	case len(p.Text) > api.MaxBytes:
		return api.ErrMany
	case p.Key && !p.First:
		return api.ErrState
	}
	return api.OK
}

// Encode a packet.
func Encode(p api.Packet) (string, api.Errno) {
	if e := Check(p); e != api.OK {
		return "", e
	}
	var w raw.Writer
	w.Number(mark+sumOf(p.First, p.End, p.Key), headBytes)
	w.Number(p.Seq, seqBytes)
	w.Number(p.Time, timeBytes)
	w.Number(len(p.Text), countBytes)
	w.Text(p.Text)
	return w.All(), api.OK
}

// Decode a packet.
func Decode(s string) (api.Packet, api.Errno) {
	var p api.Packet
	var head int
	left, found := raw.Read(s, func(r *raw.Reader) {
		head = r.Number(headBytes)
		p.Seq = r.Number(seqBytes)
		p.Time = r.Number(timeBytes)
		p.Text = r.Text(r.Number(countBytes))
	})
	if !found || left != "" || head < mark || head > greatest {
		return api.Packet{}, api.ErrForm
	}
	p.First = head&firstFlag != 0
	p.End = head&endFlag != 0
	p.Key = head&keyFlag != 0
	if e := Check(p); e != api.OK {
		return api.Packet{}, e
	}
	return p, api.OK
}

// sumOf flags that are set: the first one is worth 1, each one behind it twice as much as the one ahead.
func sumOf(flags ...bool) int {
	sum, worth := 0, 1
	for _, set := range flags {
		if set {
			sum += worth
		}
		worth *= 2
	}
	return sum
}
