package desk

import (
	"switchback/api"
	"switchback/cursor"
	"switchback/out"
	"switchback/track"
)

// doer does acts that are right for a viewer of a track; both are right, too.
type doer struct {
	api.Viewer
	track api.Track
	sent  []api.Packet
}

func (d *doer) do(a api.Act) api.Errno {
	switch a.Kind {
	case api.ActFeed:
		return d.feed(a.Text)
	case api.ActLive:
		return d.set(func() (api.Cursor, api.Errno) { return cursor.Live(d.track.Store) })
	case api.ActSeek:
		return d.set(func() (api.Cursor, api.Errno) { return cursor.Seek(d.track.Store, a.N) })
	}
	// The other acts go on from a place, which a cursor that was never set has not.
	if isUnset(d.Cursor) {
		return api.ErrState
	}
	if a.Kind == api.ActPause {
		return d.set(func() (api.Cursor, api.Errno) { return cursor.Pause(d.Cursor) })
	}
	return d.send(a.N)
}

func (d *doer) feed(s string) api.Errno {
	t, _, e := track.Feed(d.track, s)
	d.track = t
	return e
}

// set the cursor.
func (d *doer) set(how func() (api.Cursor, api.Errno)) api.Errno {
	c, e := how()
	d.Cursor = c
	return e
}

// send all that may be had up to a time.
func (d *doer) send(upto int) api.Errno {
	for {
		c, f, found, switched, e := cursor.Next(d.track.Store, d.Cursor, upto)
		if !found {
			return e
		}
		o, packets, e := out.Send(d.Out, f, switched || d.isJustSet())
		if e != api.OK {
			return e
		}
		d.Cursor, d.Out = c, o
		d.sent = append(d.sent, packets...)
	}
}

// isJustSet tells whether nothing was had since the cursor was set: behind a frame that was, Frame is at least 1.
func (d *doer) isJustSet() bool { return d.Cursor.Frame == 0 }
