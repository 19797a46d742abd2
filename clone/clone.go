// Package clone: copies of pictures, groups and tracks, for answers, which share no memory with what was handed in (P2).
package clone

import (
	"strings"

	"switchback/api"
	"switchback/slot"
)

// Frame again, its bytes too.
func Frame(f api.Frame) api.Frame {
	f.Parts = all(f.Parts, strings.Clone)
	return f
}

// Group again.
func Group(g api.Group) api.Group {
	return api.Group{Frames: all(g.Frames, Frame)}
}

// Groups again.
func Groups(l []api.Group) []api.Group {
	return all(l, Group)
}

// Track again.
func Track(t api.Track) api.Track {
	t.Buffer.Held = slot.CopyAll(t.Buffer.Held)
	t.Builder.Open = slot.CopyAll(t.Builder.Open)
	t.Store.Groups = Groups(t.Store.Groups)
	t.Store.Open = Group(t.Store.Open)
	return t
}

// all of a list, each one again.
func all[T any](l []T, again func(T) T) []T {
	var made []T
	for _, x := range l {
		made = append(made, again(x))
	}
	return made
}
