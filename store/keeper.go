package store

import (
	"slices"

	"switchback/api"
	"switchback/clone"
	"switchback/group"
)

// keeper keeps a store that is right.
type keeper struct{ api.Store }

// add a frame that is right; it tells whether a group was closed.
func (k *keeper) add(f api.Frame) bool {
	// The frames of the open group make just that group again, so what becomes of the frame behind them is what E2 says;
	// they are few, and right, so there is no error.
	closed, open, _ := group.All(slices.Concat(k.Open.Frames, []api.Frame{f}))
	k.Groups = append(clone.Groups(k.Groups), closed...)
	k.Open = open
	k.letGo()
	return len(closed) > 0
}

// letGo of the first groups, as long as the limits ask for it.
func (k *keeper) letGo() {
	for len(k.Groups) > api.MaxGroups || areTooGreat(k.Groups) {
		k.Groups = k.Groups[1:]
		k.First++
	}
}

// areTooGreat tells whether groups that are right have too many bytes together; a single one never has.
func areTooGreat(l []api.Group) bool {
	sum := 0
	for _, g := range l {
		size, _ := group.Size(g)
		sum += size
	}
	return len(l) > 1 && sum > api.MaxSize
}

// all groups, in order: the one at i is numbered First and i.
func (k *keeper) all() []api.Group {
	if len(k.Open.Frames) == 0 {
		return k.Groups
	}
	return slices.Concat(k.Groups, []api.Group{k.Open})
}
