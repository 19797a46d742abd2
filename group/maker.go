package group

import (
	"switchback/api"
	"switchback/clone"
)

// maker makes groups of frames, one by one: it is the open group, and knows those that it closed.
type maker struct {
	api.Group
	closed []api.Group
}

// take a frame: it opens a group, or comes to the open one, or is lost.
func (m *maker) take(f api.Frame) {
	if f.Key {
		m.close()
	} else if !m.goesOnWith(f) {
		return
	}
	m.Frames = append(m.Frames, clone.Frame(f))
}

// close the open group, if there is one.
func (m *maker) close() {
	if len(m.Frames) > 0 {
		m.closed = append(m.closed, m.Group)
	}
	// The next group must not be put into memory of the closed one.
	m.Frames = nil
}

// goesOnWith tells whether a frame that is not Key may come to the open group.
func (m *maker) goesOnWith(f api.Frame) bool {
	count := len(m.Frames)
	return count > 0 && count < api.MaxFrames && f.Time >= m.Frames[count-1].Time
}
