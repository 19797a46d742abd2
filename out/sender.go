package out

import (
	"strings"

	"switchback/api"
)

// sender sends a stream that is right.
type sender struct{ api.Out }

// isNew tells whether nothing was sent yet.
func (s *sender) isNew() bool { return s.Last == 0 }

// turnTo a frame: from it on times go on from where they were, with a gap.
func (s *sender) turnTo(f api.Frame) { s.Shift = s.Time + api.Gap - f.Time }

func (s *sender) timeOf(f api.Frame) int { return f.Time + s.Shift }

// checkRoom for a frame behind what was sent.
func (s *sender) checkRoom(f api.Frame) api.Errno {
	if s.timeOf(f) < s.Time {
		return api.ErrState
	}
	if s.timeOf(f) > api.MaxTime || s.Last+len(f.Parts) > api.MaxN {
		return api.ErrMany
	}
	return api.OK
}

// send a frame for which there is room.
func (s *sender) send(f api.Frame) []api.Packet {
	s.Time = s.timeOf(f)
	var l []api.Packet
	for i, part := range f.Parts {
		s.Last++
		l = append(l, api.Packet{
			Seq:   s.Last % (api.MaxSeq + 1),
			Time:  s.Time,
			First: i == 0,
			End:   i == len(f.Parts)-1,
			Key:   i == 0 && f.Key,
			Text:  strings.Clone(part),
		})
	}
	return l
}
