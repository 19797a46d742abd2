package pace

import "switchback/api"

// walker walks a pace.
type walker struct{ api.Pace }

func (w walker) isRight() bool {
	return isWithin(w.Wall, 0, api.MaxTime) && isWithin(w.Media, 0, api.MaxTime) && isSpeed(w.Num, w.Den)
}

// hasWall tells whether the pace may be asked about a time.
func (w walker) hasWall(wall int) bool { return isWithin(wall, w.Wall, api.MaxTime) }

// hasMedia tells whether the pace may be asked about a media time.
func (w walker) hasMedia(media int) bool { return isWithin(media, w.Media, api.MaxTime) }

func (w walker) mediaAt(wall int) int {
	return w.Media + (wall-w.Wall)*w.Num/w.Den
}

// wallOf a media time: what is left out of mediaAt has not been come to, so here the quotient is rounded up.
func (w walker) wallOf(media int) int {
	return w.Wall + ((media-w.Media)*w.Den+w.Num-1)/w.Num
}

// isSpeed tells whether num in den is one.
func isSpeed(num, den int) bool {
	return isWithin(num, 1, api.MaxPace) && isWithin(den, 1, api.MaxPace)
}

func isWithin(n, least, most int) bool { return least <= n && n <= most }
