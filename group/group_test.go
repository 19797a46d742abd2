package group_test

import (
	"math"
	"slices"
	"strings"
	"testing"
	"unsafe"

	"switchback/api"
	"switchback/frame"
	"switchback/group"
)

const long = "123456789"

// key begins a group, pic goes on with it.
func key(time int, parts ...string) api.Frame { return api.Frame{Time: time, Key: true, Parts: parts} }
func pic(time int, parts ...string) api.Frame { return api.Frame{Time: time, Parts: parts} }

func of(l ...api.Frame) api.Group { return api.Group{Frames: l} }

func sameFrame(a, b api.Frame) bool {
	return a.Time == b.Time && a.Key == b.Key && slices.Equal(a.Parts, b.Parts)
}

func sameGroup(a, b api.Group) bool { return slices.EqualFunc(a.Frames, b.Frames, sameFrame) }

var rightGroups = []struct {
	name string
	g    api.Group
	size int
}{
	{"one frame", of(key(5, "a")), 1},
	{"a frame without bytes", of(key(0, "")), 0},
	{"the greatest time", of(key(api.MaxTime, "ab"), pic(api.MaxTime, "c")), 3},
	{"times that rise", of(key(5, "a"), pic(6, "bc"), pic(8, "def")), 6},
	{"times that stay", of(key(5, "a"), pic(5, "bc"), pic(5, "def")), 6},
	{"parts without bytes between others", of(key(5, "ab", "", "cde"), pic(6, "", "f")), 6},
	{"bytes, not runes", of(key(5, "éé"), pic(6, "\x00\xff")), 6},
	{"six frames", of(key(1, "a"), pic(2, "b"), pic(3, "c"), pic(4, "d"), pic(5, "e"), pic(6, "f")), 6},
	{"all at its greatest", of(full(key(1)), full(pic(1)), full(pic(1)), full(pic(1)), full(pic(1)), full(pic(1))), 192},
}

// full of bytes.
func full(f api.Frame) api.Frame {
	f.Parts = []string{"12345678", "12345678", "12345678", "12345678"}
	return f
}

var wrongGroups = []struct {
	name string
	g    api.Group
	want api.Errno
}{
	{"nothing", api.Group{}, api.ErrNone},
	{"an empty list", of([]api.Frame{}...), api.ErrNone},
	{"seven frames", of(key(1, "a"), pic(2, "b"), pic(3, "c"), pic(4, "d"), pic(5, "e"), pic(6, "f"), pic(7, "g")), api.ErrMany},
	{"many frames ahead of wrong ones", of(make([]api.Frame, 7)...), api.ErrMany},
	{"very many frames", of(make([]api.Frame, 100000)...), api.ErrMany},
	{"Time below 0", of(key(-1, "a")), api.ErrRange},
	{"Time above MaxTime", of(key(5, "a"), pic(api.MaxTime+1, "b")), api.ErrRange},
	{"least Time", of(key(math.MinInt, "a")), api.ErrRange},
	{"greatest Time", of(key(math.MaxInt, "a")), api.ErrRange},
	{"no parts", of(key(5)), api.ErrNone},
	{"no parts of the last one", of(key(5, "a"), pic(6, "b"), pic(7)), api.ErrNone},
	{"five parts", of(key(5, "", "", "", "", "")), api.ErrMany},
	{"a long part", of(key(5, "a"), pic(6, "b", long)), api.ErrMany},
	{"the first one is not Key", of(pic(5, "a")), api.ErrState},
	{"the first one is not Key, the second one is", of(pic(5, "a"), key(6, "b")), api.ErrState},
	{"the second one is Key", of(key(5, "a"), key(6, "b")), api.ErrState},
	{"the last one is Key", of(key(5, "a"), pic(6, "b"), key(7, "c")), api.ErrState},
	{"a time goes back", of(key(5, "a"), pic(4, "b")), api.ErrState},
	{"a time goes back behind one that rose", of(key(5, "a"), pic(8, "b"), pic(7, "c")), api.ErrState},
	{"of one frame its own error ahead of Key", of(pic(5, long)), api.ErrMany},
	{"of one frame its own error ahead of another Key", of(key(5, "a"), key(6)), api.ErrNone},
	{"of one frame its own error ahead of its time", of(key(5, "a"), pic(-1, "b")), api.ErrRange},
	{"the first wrong frame tells: it is not Key", of(pic(5, "a"), pic(6, long)), api.ErrState},
	{"the first wrong frame tells: another one is Key", of(key(5, "a"), key(6, "b"), pic(-1, "c")), api.ErrState},
	{"the first wrong frame tells: its time goes back", of(key(5, "a"), pic(4, "b"), pic(5)), api.ErrState},
	{"the first wrong frame tells: it has no parts", of(key(5), pic(-1, "b")), api.ErrNone},
	{"the first wrong frame tells: it is long", of(key(5, long), pic(4, "b")), api.ErrMany},
}

func TestE1RightGroups(t *testing.T) {
	for _, c := range rightGroups {
		if e := group.Check(c.g); e != api.OK {
			t.Errorf("%s: Check is %d, want OK", c.name, e)
		}
		if n, e := group.Size(c.g); n != c.size || e != api.OK {
			t.Errorf("%s: Size is %d %d, want %d OK", c.name, n, e, c.size)
		}
	}
}

func TestE1WrongGroups(t *testing.T) {
	for _, c := range wrongGroups {
		if e := group.Check(c.g); e != c.want {
			t.Errorf("%s: Check is %d, want %d", c.name, e, c.want)
		}
		if n, e := group.Size(c.g); n != 0 || e != c.want {
			t.Errorf("%s: Size is %d %d, want 0 %d", c.name, n, e, c.want)
		}
	}
}

// wrongOf frames of a group: each error of each one, those of the first frame first.
func wrongOf(l []api.Frame) []api.Errno {
	var wrong []api.Errno
	for i, f := range l {
		if e := frame.Check(f); e != api.OK {
			wrong = append(wrong, e)
		}
		if i == 0 && !f.Key || i > 0 && f.Key || i > 0 && f.Time < l[i-1].Time {
			wrong = append(wrong, api.ErrState)
		}
	}
	return append(wrong, api.OK)
}

// TestE1TheFirstWrongFrameTells: all threes of frames, each right or wrong by itself and in its place.
func TestE1TheFirstWrongFrameTells(t *testing.T) {
	var kinds []api.Frame
	for _, time := range []int{-1, 5, 6, 7, api.MaxTime + 1} {
		kinds = append(kinds, key(time, "a"), pic(time, "b"), key(time, long), pic(time, long), key(time), pic(time))
	}
	for _, x := range kinds {
		for _, y := range kinds {
			for _, z := range kinds {
				g := of(x, y, z)
				want := wrongOf(g.Frames)[0]
				if e := group.Check(g); e != want {
					t.Fatalf("Check of %+v is %d, want %d", g, e, want)
				}
				if _, e := group.Size(g); e != want {
					t.Fatalf("Size of %+v is %d, want %d", g, e, want)
				}
			}
		}
	}
}

func TestE2All(t *testing.T) {
	six := []api.Frame{key(1, "a"), pic(2, "b"), pic(3, "c"), pic(4, "d"), pic(5, "e"), pic(6, "f")}
	for _, c := range []struct {
		name   string
		l      []api.Frame
		closed []api.Group
		open   api.Group
	}{
		{"nothing", nil, nil, of()},
		{"an empty list", []api.Frame{}, nil, of()},
		{"none is Key", []api.Frame{pic(1, "a"), pic(2, "b")}, nil, of()},
		{"one that is Key", []api.Frame{key(1, "a")}, nil, of(key(1, "a"))},
		{"what comes ahead of the first Key is lost", []api.Frame{pic(1, "a"), key(2, "b"), pic(3, "c")}, nil, of(key(2, "b"), pic(3, "c"))},
		{"each is Key", []api.Frame{key(1, "a"), key(2, "b"), key(3, "c")}, []api.Group{of(key(1, "a")), of(key(2, "b"))}, of(key(3, "c"))},
		{"a Key whose time goes back", []api.Frame{key(9, "a"), pic(9, "b"), key(1, "c"), pic(2, "d")}, []api.Group{of(key(9, "a"), pic(9, "b"))}, of(key(1, "c"), pic(2, "d"))},
		{"a Key of the same time", []api.Frame{key(9, "a"), key(9, "a")}, []api.Group{of(key(9, "a"))}, of(key(9, "a"))},
		{"the same time comes to the group", []api.Frame{key(5, "a"), pic(5, "b")}, nil, of(key(5, "a"), pic(5, "b"))},
		{"a time that goes back is lost, what is open stays", []api.Frame{key(5, "a"), pic(7, "b"), pic(6, "c"), pic(7, "d")}, nil, of(key(5, "a"), pic(7, "b"), pic(7, "d"))},
		{"a time less than that of the Key is lost", []api.Frame{key(5, "a"), pic(4, "b"), pic(5, "c")}, nil, of(key(5, "a"), pic(5, "c"))},
		{"six come to the group", six, nil, of(six...)},
		{"the seventh is lost, what is open stays", append(slices.Clone(six), pic(7, "g"), pic(8, "h")), nil, of(six...)},
		{"a Key behind six", append(slices.Clone(six), key(6, "g")), []api.Group{of(six...)}, of(key(6, "g"))},
		{"a Key behind one that was lost", append(slices.Clone(six), pic(7, "g"), key(0, "h"), pic(0, "i")), []api.Group{of(six...)}, of(key(0, "h"), pic(0, "i"))},
		{"all parts come along", []api.Frame{key(0, "a", "", "c", "12345678"), pic(api.MaxTime, "", "")}, nil, of(key(0, "a", "", "c", "12345678"), pic(api.MaxTime, "", ""))},
	} {
		closed, open, e := group.All(c.l)
		if e != api.OK || !slices.EqualFunc(closed, c.closed, sameGroup) || !sameGroup(open, c.open) {
			t.Errorf("%s: All is %+v %+v %d, want %+v %+v OK", c.name, closed, open, e, c.closed, c.open)
		}
	}
}

func TestE2AllHasAtMostAHundredFrames(t *testing.T) {
	l := slices.Repeat([]api.Frame{key(5, "a")}, 101)
	if closed, open, e := group.All(l[:100]); len(closed) != 99 || len(open.Frames) != 1 || e != api.OK {
		t.Errorf("All of 100 frames is %d groups, %+v, %d", len(closed), open, e)
	}
	for name, l := range map[string][]api.Frame{"right": l, "wrong": make([]api.Frame, 101), "very many": make([]api.Frame, 100000)} {
		if closed, open, e := group.All(l); len(closed) != 0 || len(open.Frames) != 0 || e != api.ErrMany {
			t.Errorf("All of %d frames, %s, is %d groups, %+v, %d, want ErrMany", len(l), name, len(closed), open, e)
		}
	}
}

func TestE2AllTellsTheFirstError(t *testing.T) {
	wrong := []api.Frame{key(-1, "a"), pic(api.MaxTime+1, "a"), key(5), pic(5), {}, key(5, "", "", "", "", ""), pic(5, long), pic(-1, long)}
	for _, x := range wrong {
		for _, y := range wrong {
			// Wrong frames tell wherever they are: as the first one, where they would be lost, and where they would not.
			for _, l := range [][]api.Frame{{x, y}, {x, key(1, "a"), y}, {key(1, "a"), key(2, "b"), x, y}, {key(9, "a"), x, pic(9, "b"), y}} {
				closed, open, e := group.All(l)
				if e != frame.Check(x) || len(closed) != 0 || len(open.Frames) != 0 {
					t.Errorf("All of %+v is %+v %+v %d, want nothing and %d", l, closed, open, e, frame.Check(x))
				}
			}
		}
	}
}

// groupsOf frames told another way: from each Key up to the next one, the first six whose time is not less than any ahead of them there.
func groupsOf(l []api.Frame) []api.Group {
	var all []api.Group
	latest := 0
	for _, f := range l {
		if f.Key {
			all = append(all, api.Group{})
			latest = f.Time
		}
		if len(all) == 0 || f.Time < latest {
			continue
		}
		g := &all[len(all)-1]
		latest = f.Time
		if len(g.Frames) < 6 {
			g.Frames = append(g.Frames, f)
		}
	}
	return all
}

// checkGroups holds All against what E2 and E3 say.
func checkGroups(t *testing.T, l []api.Frame) {
	want := groupsOf(l)
	closed, open, e := group.All(l)
	got := closed
	if len(open.Frames) > 0 {
		got = append(slices.Clone(closed), open)
	}
	if e != api.OK || len(closed) > 0 && len(open.Frames) == 0 || !slices.EqualFunc(got, want, sameGroup) {
		t.Fatalf("All of %+v is %+v %+v %d, want %+v", l, closed, open, e, want)
	}
	for _, g := range got {
		if e := group.Check(g); e != api.OK {
			t.Fatalf("All of %+v: Check of %+v is %d", l, g, e)
		}
	}
}

// TestE3EverySequence: all ways in which six frames may be Key, or not, at one of three times.
func TestE3EverySequence(t *testing.T) {
	for way := range 6 * 6 * 6 * 6 * 6 * 6 {
		l := make([]api.Frame, 6)
		for i := range l {
			l[i] = api.Frame{Time: way / 2 % 3, Key: way%2 == 0, Parts: []string{string(rune('a' + i))}}
			way /= 6
		}
		checkGroups(t, l)
	}
}

// drawn: numbers below n, the same each time.
type drawn uint64

func (d *drawn) below(n int) int {
	*d = *d*6364136223846793005 + 1442695040888963407
	return int(uint64(*d)>>33) % n
}

func TestE3LongSequences(t *testing.T) {
	var d drawn
	for range 3000 {
		l := make([]api.Frame, d.below(101))
		often, time := 2+d.below(12), 0
		for i := range l {
			time = max(0, time+d.below(5)-1)
			l[i] = api.Frame{Time: time, Key: d.below(often) == 0, Parts: slices.Repeat([]string{strings.Repeat("x", d.below(9))}, 1+d.below(4))}
		}
		checkGroups(t, l)
	}
}

// spare: two frames with two parts, and room behind each list.
func spare() []api.Frame {
	l := []api.Frame{key(1, "a", "b", "spare"), pic(2, "c", "d", "spare"), key(3, "spare"), pic(4, "spare")}
	l[0].Parts, l[1].Parts = l[0].Parts[:2], l[1].Parts[:2]
	return l
}

func TestP2WhatIsHandedInIsOnlyRead(t *testing.T) {
	l := spare()
	group.Check(of(l[:2]...))
	group.Size(of(l[:2]...))
	group.All(l[:2])
	group.All(l[:3])
	if !slices.EqualFunc(l, spare(), sameFrame) || l[0].Parts[:3][2] != "spare" || l[1].Parts[:3][2] != "spare" {
		t.Errorf("what was handed in is %+v", l)
	}
}

func TestP2AnswersAreNewMemory(t *testing.T) {
	l := []api.Frame{key(1, "a"), pic(2, "b"), key(3, "c")}
	closed, open, _ := group.All(l)
	for i := range l {
		l[i].Parts[0] = "x"
		l[i] = api.Frame{}
	}
	if len(closed) != 1 || !sameGroup(closed[0], of(key(1, "a"), pic(2, "b"))) || !sameGroup(open, of(key(3, "c"))) {
		t.Errorf("a later change of what was handed in is seen: %+v %+v", closed, open)
	}
}

func TestP2NoTwoListsShareMemory(t *testing.T) {
	l := []api.Frame{key(1, "a"), pic(2, "b", "c"), pic(3, "d"), key(4, "e"), key(5, "f", "g", "h"), pic(6, "i")}
	closed, open, _ := group.All(l)
	for _, g := range append(slices.Clone(closed), open) {
		for _, f := range g.Frames {
			clear(f.Parts[len(f.Parts):cap(f.Parts)])
		}
		clear(g.Frames[len(g.Frames):cap(g.Frames)])
	}
	clear(closed[len(closed):cap(closed)])
	want := []api.Group{of(key(1, "a"), pic(2, "b", "c"), pic(3, "d")), of(key(4, "e"))}
	if !slices.EqualFunc(closed, want, sameGroup) || !sameGroup(open, of(key(5, "f", "g", "h"), pic(6, "i"))) {
		t.Errorf("lists share memory: %+v %+v", closed, open)
	}
}

func TestP2TheSameFrameTwice(t *testing.T) {
	f := key(1, "a")
	closed, open, _ := group.All([]api.Frame{f, f, f})
	closed[0].Frames[0].Parts[0] = "x"
	if f.Parts[0] != "a" || closed[1].Frames[0].Parts[0] != "a" || open.Frames[0].Parts[0] != "a" {
		t.Errorf("frames share memory: %+v %+v %+v", f, closed, open)
	}
}

func TestP2TextsAreNewMemory(t *testing.T) {
	a, b := string([]byte("one")), string([]byte("two"))
	closed, open, _ := group.All([]api.Frame{key(1, a), key(2, b)})
	if unsafe.StringData(closed[0].Frames[0].Parts[0]) == unsafe.StringData(a) || unsafe.StringData(open.Frames[0].Parts[0]) == unsafe.StringData(b) {
		t.Error("parts share memory with what was handed in")
	}
}

func TestP3AnswersAreTheSameAgain(t *testing.T) {
	for range 3 {
		for _, c := range wrongGroups {
			group.Check(c.g)
			group.Size(c.g)
			group.All(c.g.Frames)
		}
		for _, c := range rightGroups {
			if n, e := group.Size(c.g); n != c.size || e != api.OK || group.Check(c.g) != api.OK {
				t.Errorf("%s: Size is %d %d", c.name, n, e)
			}
			if closed, open, e := group.All(c.g.Frames); e != api.OK || len(closed) != 0 || !sameGroup(open, c.g) {
				t.Errorf("%s: All is %+v %+v %d", c.name, closed, open, e)
			}
		}
	}
}
