package clone_test

import (
	"reflect"
	"testing"
	"unsafe"

	"switchback/api"
	"switchback/clone"
)

// text in memory of its own.
func text(s string) string { return string([]byte(s)) }

func groups() []api.Group {
	return []api.Group{
		{Frames: []api.Frame{{Time: 5, Key: true, Parts: []string{text("ab"), text("cd")}}, {Time: 6, Parts: []string{text("ef")}}}},
		{Frames: []api.Frame{{Time: 7, Key: true, Parts: []string{text("gh")}}}},
	}
}

func slots() []api.Slot {
	return []api.Slot{{N: 70000, P: api.Packet{Seq: 4464, Text: text("ij")}}, {N: 70001, P: api.Packet{Seq: 4465, Text: text("kl")}}}
}

// track with something in each of its lists.
func track() api.Track {
	return api.Track{
		Last:    70009,
		Buffer:  api.Buffer{Next: 70002, Held: slots()},
		Builder: api.Builder{Open: slots()},
		Store:   api.Store{First: 7, Groups: groups(), Open: groups()[0]},
	}
}

func TestP2CopiesAreTheSame(t *testing.T) {
	l := groups()
	if got := clone.Groups(l); !reflect.DeepEqual(got, l) {
		t.Errorf("Groups of %+v is %+v", l, got)
	}
	if got := clone.Group(l[0]); !reflect.DeepEqual(got, l[0]) {
		t.Errorf("Group of %+v is %+v", l[0], got)
	}
	if got := clone.Frame(l[0].Frames[0]); !reflect.DeepEqual(got, l[0].Frames[0]) {
		t.Errorf("Frame of %+v is %+v", l[0].Frames[0], got)
	}
	if got := clone.Track(track()); !reflect.DeepEqual(got, track()) {
		t.Errorf("Track of %+v is %+v", track(), got)
	}
}

func TestP2CopiesOfNothing(t *testing.T) {
	if f := clone.Frame(api.Frame{Time: 5, Key: true, Parts: []string{}}); f.Time != 5 || !f.Key || len(f.Parts) != 0 {
		t.Errorf("Frame without parts is %+v", f)
	}
	if g := clone.Group(api.Group{}); len(g.Frames) != 0 {
		t.Errorf("Group without frames is %+v", g)
	}
	if l := clone.Groups(nil); len(l) != 0 {
		t.Errorf("Groups of nothing is %+v", l)
	}
	if x := clone.Track(api.Track{Last: 70000}); x.Last != 70000 || len(x.Buffer.Held)+len(x.Builder.Open)+len(x.Store.Groups)+len(x.Store.Open.Frames) != 0 {
		t.Errorf("Track of nothing is %+v", x)
	}
}

// scribble over all that a list of groups reaches, its spare room too.
func scribble(l []api.Group) {
	l = l[:cap(l)]
	for i := range l {
		frames := l[i].Frames[:cap(l[i].Frames)]
		for j := range frames {
			parts := frames[j].Parts[:cap(frames[j].Parts)]
			for k := range parts {
				parts[k] = "scribble"
			}
			frames[j] = api.Frame{Time: -1}
		}
		l[i] = api.Group{}
	}
}

func TestP2CopiesShareNothing(t *testing.T) {
	l := groups()
	first, second := clone.Groups(l), clone.Groups(l)
	one, f := clone.Group(l[0]), clone.Frame(l[0].Frames[0])
	scribble(first)
	for what, got := range map[string]any{"what was copied": l, "the other copy": second} {
		if !reflect.DeepEqual(got, groups()) {
			t.Errorf("%s shares memory with the copy: %+v", what, got)
		}
	}
	scribble(l)
	if !reflect.DeepEqual(one, groups()[0]) || !reflect.DeepEqual(f, groups()[0].Frames[0]) {
		t.Errorf("a group, or a frame, shares memory with what was copied: %+v, %+v", one, f)
	}
}

func TestP2CopiesOfATrackShareNothing(t *testing.T) {
	x := track()
	first, second := clone.Track(x), clone.Track(x)
	scribble(first.Store.Groups)
	scribble([]api.Group{first.Store.Open})
	clear(first.Buffer.Held)
	clear(first.Builder.Open)
	for what, got := range map[string]api.Track{"what was copied": x, "the other copy": second} {
		if !reflect.DeepEqual(got, track()) {
			t.Errorf("%s shares memory with the copy: %+v", what, got)
		}
	}
	for _, pair := range [][2]string{
		{x.Buffer.Held[1].P.Text, second.Buffer.Held[1].P.Text},
		{x.Builder.Open[1].P.Text, second.Builder.Open[1].P.Text},
		{x.Store.Groups[1].Frames[0].Parts[0], second.Store.Groups[1].Frames[0].Parts[0]},
		{x.Store.Open.Frames[1].Parts[0], second.Store.Open.Frames[1].Parts[0]},
	} {
		if unsafe.StringData(pair[0]) == unsafe.StringData(pair[1]) {
			t.Errorf("%q shares memory with what was copied", pair[1])
		}
	}
}

func TestP2TextsAreNewMemory(t *testing.T) {
	l := groups()
	for i, g := range clone.Groups(l) {
		for j, f := range g.Frames {
			for k, part := range f.Parts {
				if unsafe.StringData(part) == unsafe.StringData(l[i].Frames[j].Parts[k]) {
					t.Errorf("%q shares memory with what was copied", part)
				}
			}
		}
	}
}
