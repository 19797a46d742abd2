package frame

import (
	"switchback/api"
	"switchback/slot"
)

// checkBuilder tells whether a builder is right.
func checkBuilder(b api.Builder) api.Errno {
	if len(b.Open) >= api.MaxParts {
		return api.ErrMany
	}
	return slot.CheckAll(b.Open, func(i int) bool { return isBegun(b.Open, i) })
}

// isBegun tells whether the slot at i goes on with, or at 0 begins, a frame that has not come to its end.
func isBegun(open []api.Slot, i int) bool {
	p := open[i].P
	return p.First == (i == 0) && !p.End && (i == 0 || follows(open[i-1], open[i]))
}

// follows tells whether x is of the same picture as the slot that came ahead of it, and just behind it.
func follows(ahead, x api.Slot) bool {
	return x.N == ahead.N+1 && x.P.Time == ahead.P.Time
}

// maker makes frames of slots, one by one.
type maker struct{ api.Builder }

// add a slot: a frame, and true, if that came to its end.
func (m *maker) add(x api.Slot) (api.Frame, bool) {
	m.take(x)
	if len(m.Open) > 0 && x.P.End {
		f := frameOf(m.Open)
		m.Open = nil
		return f, true
	}
	if len(m.Open) == api.MaxParts {
		m.Open = nil
	}
	return api.Frame{}, false
}

// take a slot into the open frame, if it belongs there.
func (m *maker) take(x api.Slot) {
	last := len(m.Open) - 1
	switch {
	case x.P.First:
		m.Open = []api.Slot{x}
	case last >= 0 && follows(m.Open[last], x):
		m.Open = append(m.Open, x)
	default:
		m.Open = nil
	}
}

// frameOf all packets of a picture.
func frameOf(l []api.Slot) api.Frame {
	f := api.Frame{Time: l[0].P.Time, Key: l[0].P.Key}
	for _, x := range l {
		f.Parts = append(f.Parts, x.P.Text)
	}
	return f
}
