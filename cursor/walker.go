package cursor

import (
	"switchback/api"
	"switchback/store"
)

// walker walks a store; both it and the cursor are right.
type walker struct {
	api.Cursor
	kept api.Store
}

// findPlace of the frame that comes next, which may not be there yet; it tells whether that is a switch.
func (w *walker) findPlace() bool {
	g, e := store.Get(w.kept, w.Group)
	switch {
	case e != api.OK || w.Frame > len(g.Frames):
		w.Group, w.Frame = w.start(), 0
		return true
	case w.Frame == len(g.Frames):
		w.Group, w.Frame = w.Group+1, 0
	}
	return false
}

// start: the group that a switch goes to.
func (w *walker) start() int {
	if w.Mode == api.Replay {
		return w.kept.First
	}
	newest, _ := Live(w.kept) // without groups there is none at any place
	return newest.Group
}

// step over the frame at the cursor, if there is one that may be had.
func (w *walker) step(upto int) (api.Frame, bool) {
	g, e := store.Get(w.kept, w.Group)
	if e != api.OK || !w.mayHave(g.Frames[w.Frame], upto) {
		return api.Frame{}, false
	}
	f := g.Frames[w.Frame]
	w.Frame++
	return f, true
}

// mayHave tells whether the mode lets a frame come; a Paused one lets none.
func (w *walker) mayHave(f api.Frame, upto int) bool {
	return w.Mode == api.Live || w.Mode == api.Replay && f.Time <= upto
}
