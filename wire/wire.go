// Package wire: packets as bytes: see doc/01-wire.md.
package wire

import "switchback/api"

// The first byte of every packet is mark and the sum of its flags.
const (
	mark      = 128
	firstFlag = 1
	endFlag   = 2
	keyFlag   = 4
	greatest  = mark + firstFlag + endFlag + keyFlag
)

// How many bytes each number of a packet has.
const (
	headBytes  = 1
	seqBytes   = 2
	timeBytes  = 4
	countBytes = 1
)

// Check a packet.
func Check(p api.Packet) api.Errno {
	switch {
	case p.Seq < 0 || p.Seq > api.MaxSeq:
		return api.ErrRange
	case p.Time < 0 || p.Time > api.MaxTime:
		return api.ErrRange
	case len(p.Text) > api.MaxBytes:
		return api.ErrMany
	case p.Key && !p.First:
		return api.ErrState
	}
	return api.OK
}

// Encode a packet.
func Encode(p api.Packet) (string, api.Errno) {
	if e := Check(p); e != api.OK {
		return "", e
	}
	var b []byte
	b = appendNumber(b, mark+sumOf(p.First, p.End, p.Key), headBytes)
	b = appendNumber(b, p.Seq, seqBytes)
	b = appendNumber(b, p.Time, timeBytes)
	b = appendNumber(b, len(p.Text), countBytes)
	b = append(b, p.Text...)
	return string(b), api.OK
}

// Decode a packet.
func Decode(s string) (api.Packet, api.Errno) {
	var p api.Packet
	var head int
	whole := readWhole(s, func(r *reader) {
		head = r.number(headBytes)
		p.Seq = r.number(seqBytes)
		p.Time = r.number(timeBytes)
		p.Text = r.text(r.number(countBytes))
	})
	if !whole || head < mark || head > greatest {
		return api.Packet{}, api.ErrForm
	}
	p.First = head&firstFlag != 0
	p.End = head&endFlag != 0
	p.Key = head&keyFlag != 0
	if e := Check(p); e != api.OK {
		return api.Packet{}, e
	}
	return p, api.OK
}

// sumOf flags that are set: the first one is worth 1, each one behind it twice as much as the one ahead.
func sumOf(flags ...bool) int {
	sum, worth := 0, 1
	for _, set := range flags {
		if set {
			sum += worth
		}
		worth *= 2
	}
	return sum
}

// appendNumber puts the lowest bytes of n behind b, the greatest of them first.
func appendNumber(b []byte, n, size int) []byte {
	for i := size - 1; i >= 0; i-- {
		b = append(b, byte(n>>(8*i)))
	}
	return b
}
