package clone_test

import (
	"reflect"
	"testing"
	"unsafe"

	"switchback/api"
	"switchback/clone"
)

// text in memory of its own.
func text(s string) string { return string([]byte(s)) }

func groups() []api.Group {
	return []api.Group{
		{Frames: []api.Frame{{Time: 5, Key: true, Parts: []string{text("ab"), text("cd")}}, {Time: 6, Parts: []string{text("ef")}}}},
		{Frames: []api.Frame{{Time: 7, Key: true, Parts: []string{text("gh")}}}},
	}
}

func TestP2CopiesAreTheSame(t *testing.T) {
	l := groups()
	if got := clone.Groups(l); !reflect.DeepEqual(got, l) {
		t.Errorf("Groups of %+v is %+v", l, got)
	}
	if got := clone.Group(l[0]); !reflect.DeepEqual(got, l[0]) {
		t.Errorf("Group of %+v is %+v", l[0], got)
	}
	if got := clone.Frame(l[0].Frames[0]); !reflect.DeepEqual(got, l[0].Frames[0]) {
		t.Errorf("Frame of %+v is %+v", l[0].Frames[0], got)
	}
}

func TestP2CopiesOfNothing(t *testing.T) {
	if f := clone.Frame(api.Frame{Time: 5, Key: true, Parts: []string{}}); f.Time != 5 || !f.Key || len(f.Parts) != 0 {
		t.Errorf("Frame without parts is %+v", f)
	}
	if g := clone.Group(api.Group{}); len(g.Frames) != 0 {
		t.Errorf("Group without frames is %+v", g)
	}
	if l := clone.Groups(nil); len(l) != 0 {
		t.Errorf("Groups of nothing is %+v", l)
	}
}

// scribble over all that a list of groups reaches, its spare room too.
func scribble(l []api.Group) {
	l = l[:cap(l)]
	for i := range l {
		frames := l[i].Frames[:cap(l[i].Frames)]
		for j := range frames {
			parts := frames[j].Parts[:cap(frames[j].Parts)]
			for k := range parts {
				parts[k] = "scribble"
			}
			frames[j] = api.Frame{Time: -1}
		}
		l[i] = api.Group{}
	}
}

func TestP2CopiesShareNothing(t *testing.T) {
	l := groups()
	first, second := clone.Groups(l), clone.Groups(l)
	one, f := clone.Group(l[0]), clone.Frame(l[0].Frames[0])
	scribble(first)
	for what, got := range map[string]any{"what was copied": l, "the other copy": second} {
		if !reflect.DeepEqual(got, groups()) {
			t.Errorf("%s shares memory with the copy: %+v", what, got)
		}
	}
	scribble(l)
	if !reflect.DeepEqual(one, groups()[0]) || !reflect.DeepEqual(f, groups()[0].Frames[0]) {
		t.Errorf("a group, or a frame, shares memory with what was copied: %+v, %+v", one, f)
	}
}

func TestP2TextsAreNewMemory(t *testing.T) {
	l := groups()
	for i, g := range clone.Groups(l) {
		for j, f := range g.Frames {
			for k, part := range f.Parts {
				if unsafe.StringData(part) == unsafe.StringData(l[i].Frames[j].Parts[k]) {
					t.Errorf("%q shares memory with what was copied", part)
				}
			}
		}
	}
}
