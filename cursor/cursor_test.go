package cursor_test

import (
	"math"
	"reflect"
	"slices"
	"strconv"
	"strings"
	"testing"
	"unsafe"

	"switchback/api"
	"switchback/cursor"
	"switchback/store"
)

// key begins a group, pic goes on with it.
func key(time int, parts ...string) api.Frame { return api.Frame{Time: time, Key: true, Parts: parts} }
func pic(time int, parts ...string) api.Frame { return api.Frame{Time: time, Parts: parts} }

func of(l ...api.Frame) api.Group { return api.Group{Frames: l} }

// with groups, from a number on, and an open one.
func with(first int, open api.Group, l ...api.Group) api.Store {
	return api.Store{First: first, Groups: l, Open: open}
}

// sample: groups 3 and 4, and the open one, 5.
func sample() api.Store {
	return with(3, of(key(30, "e"), pic(31, "f")), of(key(10, "a"), pic(12, "b", "c")), of(key(20, "d")))
}

// full: the greatest numbers of groups, and as many groups and frames as there may be.
func full() api.Store {
	g := of(key(5, "a"), pic(6, "b"), pic(7, "c"), pic(7, "d"), pic(8, "e"), pic(9, "f"))
	return with(api.MaxGroup, g, g, g, g, g, g)
}

func rightStores() []api.Store {
	return []api.Store{
		{},
		with(api.MaxGroup, of([]api.Frame{}...), []api.Group{}...),
		with(4, of()),
		sample(),
		with(3, of(), sample().Groups...),
		with(4, of(key(9, "a"))),
		with(4, of(), of(key(api.MaxTime, "a"))),
		with(2, of(key(5, "a"), pic(7, "b")), of(key(40, "c")), of(key(1, "d"), pic(60, "e")), of(key(0, ""))),
		full(),
	}
}

// wrongStores: one of each error that Check of a store tells; in a cursor's calls it tells ahead of all else.
func wrongStores() map[string]api.Store {
	return map[string]api.Store{
		"3 First below 0":               with(-1, of(), of(key(1, "a"))),
		"3 First above MaxGroup":        with(api.MaxGroup+1, of(key(1, "a"))),
		"2 six groups":                  with(0, of(), make([]api.Group, 6)...),
		"5 a group without frames":      with(0, of(key(1, "a")), of()),
		"4 a group that is not whole":   with(0, of(), of(pic(1, "a"))),
		"3 a time above MaxTime":        with(0, of(), of(key(api.MaxTime+1, "a"))),
		"4 an open one not whole":       with(0, of(pic(1, "a")), of(key(1, "a"))),
		"2 an open one of seven frames": with(0, of(make([]api.Frame, 7)...)),
	}
}

// errorOf a name that begins with it.
func errorOf(name string) api.Errno { return api.Errno(name[0] - '0') }

func rightCursors() []api.Cursor {
	var all []api.Cursor
	for _, mode := range []int{api.Live, api.Paused, api.Replay} {
		for _, group := range []int{0, 1, 3, 99999, 100000, 100005, 100006} {
			for frame := 0; frame <= 6; frame++ {
				all = append(all, api.Cursor{Mode: mode, Group: group, Frame: frame})
			}
		}
	}
	return all
}

// wrongCursors, by the error that Check tells: of ErrKind the place is wrong in some, too.
func wrongCursors() map[api.Errno][]api.Cursor {
	all := map[api.Errno][]api.Cursor{}
	for _, mode := range []int{math.MinInt, -1, 0, 4, 5, math.MaxInt} {
		all[api.ErrKind] = append(all[api.ErrKind], api.Cursor{Mode: mode}, api.Cursor{Mode: mode, Group: 3, Frame: 1},
			api.Cursor{Mode: mode, Group: -1}, api.Cursor{Mode: mode, Frame: 7})
	}
	for mode := api.Live; mode <= api.Replay; mode++ {
		for _, n := range []int{math.MinInt, -1, 100007, math.MaxInt} {
			all[api.ErrRange] = append(all[api.ErrRange], api.Cursor{Mode: mode, Group: n}, api.Cursor{Mode: mode, Group: n, Frame: n})
		}
		for _, n := range []int{math.MinInt, -1, 7, 100006, math.MaxInt} {
			all[api.ErrRange] = append(all[api.ErrRange], api.Cursor{Mode: mode, Frame: n}, api.Cursor{Mode: mode, Group: 3, Frame: n})
		}
	}
	return all
}

func sameFrame(a, b api.Frame) bool {
	return a.Time == b.Time && a.Key == b.Key && slices.Equal(a.Parts, b.Parts)
}

// answer of Next.
type answer struct {
	c         api.Cursor
	f         api.Frame
	has, turn bool
	e         api.Errno
}

func next(s api.Store, c api.Cursor, upto int) answer {
	d, f, has, turn, e := cursor.Next(s, c, upto)
	return answer{d, f, has, turn, e}
}

func (a answer) same(b answer) bool {
	return a.c == b.c && sameFrame(a.f, b.f) && a.has == b.has && a.turn == b.turn && a.e == b.e
}

func wantNext(t *testing.T, s api.Store, c api.Cursor, upto int, want answer) {
	t.Helper()
	if got := next(s, c, upto); !got.same(want) {
		t.Fatalf("Next of %+v in %+v up to %d is %+v, want %+v", c, s, upto, got, want)
	}
}

func wantCursor(t *testing.T, what string, got api.Cursor, e api.Errno, want api.Cursor, wantErr api.Errno) {
	t.Helper()
	if got != want || e != wantErr {
		t.Errorf("%s is %+v %d, want %+v %d", what, got, e, want, wantErr)
	}
}

func TestI1RightCursors(t *testing.T) {
	for _, c := range rightCursors() {
		if e := cursor.Check(c); e != api.OK {
			t.Errorf("Check of %+v is %d, want OK", c, e)
		}
		got, e := cursor.Pause(c)
		wantCursor(t, "Pause", got, e, api.Cursor{Mode: api.Paused, Group: c.Group, Frame: c.Frame}, api.OK)
	}
}

func TestI1WrongCursors(t *testing.T) {
	for want, l := range wrongCursors() {
		for _, c := range l {
			if e := cursor.Check(c); e != want {
				t.Errorf("Check of %+v is %d, want %d", c, e, want)
			}
			got, e := cursor.Pause(c)
			wantCursor(t, "Pause", got, e, api.Cursor{}, want)
		}
	}
}

func TestI1Live(t *testing.T) {
	for _, c := range []struct {
		name  string
		s     api.Store
		group int
	}{
		{"the open one", sample(), 5},
		{"the last closed one, if none is open", with(3, of(), sample().Groups...), 4},
		{"the open one alone", with(7, of(key(1, "a"))), 7},
		{"the open one, though its time is less", with(7, of(key(1, "a")), of(key(9, "b"))), 8},
		{"a time of MaxTime", with(7, of(key(api.MaxTime, "a")), of(key(9, "b"))), 8},
		{"group 0", with(0, of(), of(key(9, "b"))), 0},
		{"the greatest number", full(), 100005},
	} {
		got, e := cursor.Live(c.s)
		wantCursor(t, c.name+": Live", got, e, api.Cursor{Mode: api.Live, Group: c.group}, api.OK)
	}
	for _, s := range []api.Store{{}, with(7, of([]api.Frame{}...), []api.Group{}...)} {
		got, e := cursor.Live(s)
		wantCursor(t, "no groups: Live", got, e, api.Cursor{}, api.ErrNone)
	}
}

func TestI1Seek(t *testing.T) {
	for _, c := range []struct {
		name        string
		s           api.Store
		time, group int
	}{
		{"ahead of all", sample(), 0, 3},
		{"the first one's time", sample(), 10, 3},
		{"a time within the first one", sample(), 12, 3},
		{"just ahead of the second one", sample(), 19, 3},
		{"the second one's time", sample(), 20, 4},
		{"just ahead of the open one", sample(), 29, 4},
		{"the open one's time", sample(), 30, 5},
		{"behind all", sample(), api.MaxTime, 5},
		{"behind all, none is open", with(3, of(), sample().Groups...), api.MaxTime, 4},
		{"the last one of the same time", with(3, of(key(5, "a")), of(key(5, "a")), of(key(5, "a"))), 5, 5},
		{"the greatest number", full(), 5, 100005},
		{"the greatest First", full(), 4, 100000},
	} {
		got, e := cursor.Seek(c.s, c.time)
		wantCursor(t, c.name+": Seek", got, e, api.Cursor{Mode: api.Replay, Group: c.group}, api.OK)
	}
}

func TestI1SeekErrors(t *testing.T) {
	for _, s := range rightStores() {
		for _, time := range []int{math.MinInt, -1, api.MaxTime + 1, math.MaxInt} {
			got, e := cursor.Seek(s, time)
			wantCursor(t, "Seek of no time", got, e, api.Cursor{}, api.ErrRange)
		}
	}
	for _, time := range []int{0, 5, api.MaxTime} {
		got, e := cursor.Seek(with(7, of([]api.Frame{}...), []api.Group{}...), time)
		wantCursor(t, "no groups: Seek", got, e, api.Cursor{}, api.ErrNone)
	}
}

// TestI1WrongStores: wrong times and cursors come along: Check of the store tells ahead of them.
func TestI1WrongStores(t *testing.T) {
	for name, s := range wrongStores() {
		want := errorOf(name)
		got, e := cursor.Live(s)
		wantCursor(t, name+": Live", got, e, api.Cursor{}, want)
		for _, n := range []int{math.MinInt, -1, 0, 5, api.MaxTime, api.MaxTime + 1, math.MaxInt} {
			got, e := cursor.Seek(s, n)
			wantCursor(t, name+": Seek", got, e, api.Cursor{}, want)
			for mode := 0; mode <= 4; mode++ {
				wantNext(t, s, api.Cursor{Mode: mode, Group: n}, n, answer{e: want})
				wantNext(t, s, api.Cursor{Mode: mode, Frame: 1}, n, answer{e: want})
			}
		}
	}
}

func TestI2Errors(t *testing.T) {
	times := []int{math.MinInt, -1, 0, 25, api.MaxTime, api.MaxTime + 1, math.MaxInt}
	for _, s := range rightStores() {
		for want, l := range wrongCursors() {
			for _, c := range l {
				for _, upto := range times {
					wantNext(t, s, c, upto, answer{e: want})
				}
			}
		}
		for _, c := range rightCursors() {
			for _, upto := range []int{math.MinInt, -1, api.MaxTime + 1, math.MaxInt} {
				wantNext(t, s, c, upto, answer{e: api.ErrRange})
			}
		}
	}
}

func TestI2Next(t *testing.T) {
	s := sample()
	shut := with(3, of(), s.Groups...)
	a, b, d, e, f := s.Groups[0].Frames[0], s.Groups[0].Frames[1], s.Groups[1].Frames[0], s.Open.Frames[0], s.Open.Frames[1]
	const live, paused, replay = api.Live, api.Paused, api.Replay
	for _, c := range []struct {
		name string
		s    api.Store
		c    api.Cursor
		upto int
		want answer
	}{
		{"a frame", s, api.Cursor{Mode: live, Group: 3}, 0, answer{api.Cursor{Mode: live, Group: 3, Frame: 1}, a, true, false, 0}},
		{"the last frame of a group", s, api.Cursor{Mode: live, Group: 3, Frame: 1}, 0, answer{api.Cursor{Mode: live, Group: 3, Frame: 2}, b, true, false, 0}},
		{"the group behind", s, api.Cursor{Mode: live, Group: 3, Frame: 2}, 0, answer{api.Cursor{Mode: live, Group: 4, Frame: 1}, d, true, false, 0}},
		{"the open group behind", s, api.Cursor{Mode: live, Group: 4, Frame: 1}, 0, answer{api.Cursor{Mode: live, Group: 5, Frame: 1}, e, true, false, 0}},
		{"the open group", s, api.Cursor{Mode: live, Group: 5, Frame: 1}, 0, answer{api.Cursor{Mode: live, Group: 5, Frame: 2}, f, true, false, 0}},
		{"none yet", s, api.Cursor{Mode: live, Group: 5, Frame: 2}, 0, answer{c: api.Cursor{Mode: live, Group: 5, Frame: 2}}},
		{"none yet, none is open", shut, api.Cursor{Mode: live, Group: 4, Frame: 1}, 0, answer{c: api.Cursor{Mode: live, Group: 4, Frame: 1}}},
		{"none yet, in replay", s, api.Cursor{Mode: replay, Group: 5, Frame: 2}, 99, answer{c: api.Cursor{Mode: replay, Group: 5, Frame: 2}}},
		{"group gone, live", s, api.Cursor{Mode: live, Group: 2, Frame: 1}, 0, answer{api.Cursor{Mode: live, Group: 5, Frame: 1}, e, true, true, 0}},
		{"group gone, none is open, live", shut, api.Cursor{Mode: live, Group: 0}, 0, answer{api.Cursor{Mode: live, Group: 4, Frame: 1}, d, true, true, 0}},
		{"group gone, replay", s, api.Cursor{Mode: replay, Group: 2, Frame: 1}, 10, answer{api.Cursor{Mode: replay, Group: 3, Frame: 1}, a, true, true, 0}},
		{"group gone, replay, too late", s, api.Cursor{Mode: replay, Group: 2, Frame: 1}, 9, answer{c: api.Cursor{Mode: replay, Group: 2, Frame: 1}}},
		{"behind the newest, live", s, api.Cursor{Mode: live, Group: 6}, 0, answer{api.Cursor{Mode: live, Group: 5, Frame: 1}, e, true, true, 0}},
		{"where the open one would be, live", shut, api.Cursor{Mode: live, Group: 5}, 0, answer{api.Cursor{Mode: live, Group: 4, Frame: 1}, d, true, true, 0}},
		{"behind the newest, replay", s, api.Cursor{Mode: replay, Group: 100006}, 10, answer{api.Cursor{Mode: replay, Group: 3, Frame: 1}, a, true, true, 0}},
		{"more frames than there are, live", s, api.Cursor{Mode: live, Group: 3, Frame: 3}, 0, answer{api.Cursor{Mode: live, Group: 5, Frame: 1}, e, true, true, 0}},
		{"more frames than there are, in the newest", s, api.Cursor{Mode: live, Group: 5, Frame: 3}, 0, answer{api.Cursor{Mode: live, Group: 5, Frame: 1}, e, true, true, 0}},
		{"more frames than there are, replay", s, api.Cursor{Mode: replay, Group: 4, Frame: 2}, 10, answer{api.Cursor{Mode: replay, Group: 3, Frame: 1}, a, true, true, 0}},
		{"more frames than there are, in the first", s, api.Cursor{Mode: replay, Group: 3, Frame: 6}, 10, answer{api.Cursor{Mode: replay, Group: 3, Frame: 1}, a, true, true, 0}},
		{"replay, the time just come to", s, api.Cursor{Mode: replay, Group: 3, Frame: 1}, 12, answer{api.Cursor{Mode: replay, Group: 3, Frame: 2}, b, true, false, 0}},
		{"replay, the time not come to", s, api.Cursor{Mode: replay, Group: 3, Frame: 1}, 11, answer{c: api.Cursor{Mode: replay, Group: 3, Frame: 1}}},
		{"replay, the group behind", s, api.Cursor{Mode: replay, Group: 3, Frame: 2}, 20, answer{api.Cursor{Mode: replay, Group: 4, Frame: 1}, d, true, false, 0}},
		{"replay, the group behind not come to", s, api.Cursor{Mode: replay, Group: 3, Frame: 2}, 19, answer{c: api.Cursor{Mode: replay, Group: 3, Frame: 2}}},
		{"paused", s, api.Cursor{Mode: paused, Group: 3}, 99, answer{c: api.Cursor{Mode: paused, Group: 3}}},
		{"paused, group gone", s, api.Cursor{Mode: paused, Group: 2, Frame: 1}, 99, answer{c: api.Cursor{Mode: paused, Group: 2, Frame: 1}}},
		{"paused, at the end of a group", s, api.Cursor{Mode: paused, Group: 3, Frame: 2}, 99, answer{c: api.Cursor{Mode: paused, Group: 3, Frame: 2}}},
		{"no groups, live", with(3, of()), api.Cursor{Mode: live, Group: 3}, 99, answer{c: api.Cursor{Mode: live, Group: 3}}},
		{"no groups, replay", with(3, of()), api.Cursor{Mode: replay, Group: 2, Frame: 4}, 99, answer{c: api.Cursor{Mode: replay, Group: 2, Frame: 4}}},
	} {
		if got := next(c.s, c.c, c.upto); !got.same(c.want) {
			t.Errorf("%s: Next is %+v, want %+v", c.name, got, c.want)
		}
	}
}

// place of a frame that a store has.
type place struct {
	group, frame int
	f            api.Frame
	isLast       bool // of its group
}

func places(s api.Store) []place {
	var all []place
	for i, g := range append(slices.Clone(s.Groups), s.Open) {
		for j, f := range g.Frames {
			all = append(all, place{s.First + i, j, f, j == len(g.Frames)-1})
		}
	}
	return all
}

// expected of Next, told another way: by the list of all places, in which the cursor is at one, or just behind one, or nowhere.
func expected(s api.Store, c api.Cursor, upto int) answer {
	all := places(s)
	at := slices.IndexFunc(all, func(p place) bool { return p.group == c.Group && p.frame == c.Frame })
	behind := slices.IndexFunc(all, func(p place) bool { return p.group == c.Group && p.frame == c.Frame-1 && p.isLast })
	turn := at < 0 && behind < 0
	switch {
	case behind >= 0:
		at = behind + 1
	case turn && c.Mode == api.Replay:
		at = 0
	case turn:
		for i, p := range all {
			if p.frame == 0 {
				at = i
			}
		}
	}
	if c.Mode == api.Paused || at < 0 || at >= len(all) || c.Mode == api.Replay && all[at].f.Time > upto {
		return answer{c: c}
	}
	p := all[at]
	return answer{api.Cursor{Mode: c.Mode, Group: p.group, Frame: p.frame + 1}, p.f, true, turn, api.OK}
}

func TestI2EveryPlace(t *testing.T) {
	for _, s := range rightStores() {
		for mode := api.Live; mode <= api.Replay; mode++ {
			for group := max(0, s.First-3); group <= min(s.First+8, 100006); group++ {
				for frame := 0; frame <= 6; frame++ {
					for _, upto := range []int{0, 1, 5, 8, 9, 10, 12, 20, 30, 31, 40, 59, 60, api.MaxTime - 1, api.MaxTime} {
						c := api.Cursor{Mode: mode, Group: group, Frame: frame}
						wantNext(t, s, c, upto, expected(s, c, upto))
					}
				}
			}
		}
	}
}

// drawn: numbers below n, the same each time.
type drawn uint64

func (d *drawn) below(n int) int {
	*d = *d*6364136223846793005 + 1442695040888963407
	return int(uint64(*d)>>33) % n
}

// feed a frame of its own text; times rise, and now and then go back.
func (d *drawn) feed(t *testing.T, s api.Store, n int) api.Store {
	f := api.Frame{Time: max(0, n*3-d.below(8)), Key: d.below(4) == 0, Parts: []string{strconv.Itoa(n)}}
	s, _, e := store.Add(s, f)
	if e != api.OK {
		t.Fatalf("Add of %+v is %d", f, e)
	}
	return s
}

// watch what comes next; behind a switch it is the first frame of a later group, and Key.
func watch(t *testing.T, s api.Store, c api.Cursor, upto int) answer {
	t.Helper()
	wantNext(t, s, c, upto, expected(s, c, upto))
	got := next(s, c, upto)
	if got.turn && (!got.f.Key || got.c.Frame != 1 || got.c.Group <= c.Group) {
		t.Fatalf("behind a switch from %+v comes %+v, and it is at %+v", c, got.f, got.c)
	}
	return got
}

// start of a viewer, by turns at the newest group and at a time.
func (d *drawn) start(t *testing.T, s api.Store, round int) api.Cursor {
	t.Helper()
	c, e := cursor.Live(s)
	if round%2 == 1 {
		c, e = cursor.Seek(s, d.below(10))
	}
	if e != api.OK {
		t.Fatalf("a cursor of %+v is %+v %d", s, c, e)
	}
	return c
}

// TestI3InOrderEachOnce: while a store is fed and groups of it go, a viewer's frames are those that were stored, none left out but by a switch, and none twice; the text of a frame tells when it was fed.
func TestI3InOrderEachOnce(t *testing.T) {
	var d drawn
	turns := map[int]int{}
	for round := range 300 {
		s := with(round, of())
		for len(places(s)) == 0 {
			s = d.feed(t, s, 1)
		}
		c, last := d.start(t, s, round), 0
		often := 1 + d.below(40)
		for n := 2; n < 120; n++ {
			s = d.feed(t, s, n)
			for asks := d.below(often) == 0; asks; {
				got := watch(t, s, c, n*3)
				now, _ := strconv.Atoi(strings.Join(got.f.Parts, ""))
				if got.has && now <= last {
					t.Fatalf("from %+v to %+v comes %d behind %d", c, got.c, now, last)
				}
				if got.turn {
					turns[c.Mode]++
				}
				c, asks, last = got.c, got.has, max(last, now)
			}
		}
	}
	if turns[api.Live] < 100 || turns[api.Replay] < 100 {
		t.Errorf("there are only so many switches by mode: %v", turns)
	}
}

// TestI3EveryFrameOfAStore: from the first group on a replay comes by every frame, once, without a switch, and then there is none yet.
func TestI3EveryFrameOfAStore(t *testing.T) {
	for _, s := range rightStores() {
		c := api.Cursor{Mode: api.Replay, Group: s.First}
		for _, p := range places(s) {
			got := next(s, c, api.MaxTime)
			if !got.has || got.turn || got.e != api.OK || !sameFrame(got.f, p.f) {
				t.Fatalf("Next of %+v in %+v is %+v, want %+v", c, s, got, p.f)
			}
			c = got.c
		}
		wantNext(t, s, c, api.MaxTime, answer{c: c})
	}
}

// spare: a store with room behind each list.
func spare() api.Store {
	parts := func(s string) []string { return []string{s, "spare"}[:1] }
	frames := func(time int, s string) []api.Frame {
		return []api.Frame{key(time, parts(s)...), pic(9, parts("spare")...)}[:1]
	}
	groups := []api.Group{of(frames(1, "a")...), of(frames(2, "b")...), of(frames(9, "spare")...)}
	return with(7, of(frames(3, "c")...), groups[:2]...)
}

// whole: all that the lists of a store have, their spare room too.
func whole(s api.Store) [][]string {
	var all [][]string
	for _, g := range append(slices.Clone(s.Groups[:cap(s.Groups)]), s.Open) {
		for _, f := range g.Frames[:cap(g.Frames)] {
			all = append(all, append(slices.Clone(f.Parts[:cap(f.Parts)]), strconv.Itoa(f.Time), strconv.FormatBool(f.Key)))
		}
	}
	return all
}

func TestP2WhatIsHandedInIsOnlyRead(t *testing.T) {
	s := spare()
	cursor.Live(s)
	cursor.Seek(s, 2)
	for group := 5; group <= 11; group++ {
		for frame := 0; frame <= 3; frame++ {
			for mode := api.Live; mode <= api.Replay; mode++ {
				cursor.Next(s, api.Cursor{Mode: mode, Group: group, Frame: frame}, 2)
			}
		}
	}
	if !reflect.DeepEqual(s, spare()) || !reflect.DeepEqual(whole(s), whole(spare())) {
		t.Errorf("what was handed in is %+v, was %+v", whole(s), whole(spare()))
	}
}

// TestP2AnswersAreNewMemory: of every kind of frame, one of a closed group and of the open one, by a switch or not.
func TestP2AnswersAreNewMemory(t *testing.T) {
	for _, c := range []api.Cursor{{Mode: 1, Group: 7}, {Mode: 1, Group: 7, Frame: 1}, {Mode: 3, Group: 8, Frame: 1}, {Mode: 1, Group: 9}, {Mode: 1}, {Mode: 3}} {
		s := spare()
		first, second := next(s, c, 9), next(s, c, 9)
		if !first.has || len(first.f.Parts) != 1 {
			t.Fatalf("Next of %+v is %+v", c, first)
		}
		want := first.f.Parts[0]
		for _, part := range first.f.Parts[:cap(first.f.Parts)] {
			if part == "spare" {
				t.Errorf("Next of %+v has the spare room of what was handed in", c)
			}
		}
		first.f.Parts[0] = "x"
		if !reflect.DeepEqual(whole(s), whole(spare())) || second.f.Parts[0] != want {
			t.Errorf("Next of %+v: what was handed in, or another answer, is changed by way of the answer: %+v, %+v", c, whole(s), second)
		}
		for _, g := range append(s.Groups, s.Open) {
			g.Frames[0].Parts[0] = "y"
		}
		if second.f.Parts[0] != want {
			t.Errorf("Next of %+v: a later change of what was handed in is seen: %+v", c, second)
		}
	}
}

func TestP2TextsAreNewMemory(t *testing.T) {
	text := string([]byte("text"))
	s := with(7, of(key(1, text)), of(key(1, text)))
	for group := 6; group <= 9; group++ {
		for _, mode := range []int{api.Live, api.Replay} {
			got := next(s, api.Cursor{Mode: mode, Group: group}, 1)
			if !got.has || got.f.Parts[0] != "text" || unsafe.StringData(got.f.Parts[0]) == unsafe.StringData(text) {
				t.Errorf("Next at %d is %+v: its text must be there, and of its own", group, got)
			}
		}
	}
}

func TestP3AnswersAreTheSameAgain(t *testing.T) {
	s := sample()
	for range 3 {
		for name, wrong := range wrongStores() {
			cursor.Live(wrong)
			cursor.Seek(wrong, 5)
			wantNext(t, wrong, api.Cursor{Mode: api.Live}, 5, answer{e: errorOf(name)})
		}
		got, e := cursor.Live(s)
		wantCursor(t, "Live", got, e, api.Cursor{Mode: api.Live, Group: 5}, api.OK)
		got, e = cursor.Seek(s, 25)
		wantCursor(t, "Seek", got, e, api.Cursor{Mode: api.Replay, Group: 4}, api.OK)
		got, e = cursor.Pause(got)
		wantCursor(t, "Pause", got, e, api.Cursor{Mode: api.Paused, Group: 4}, api.OK)
		for mode := api.Live; mode <= api.Replay; mode++ {
			c := api.Cursor{Mode: mode, Group: 1}
			wantNext(t, s, c, 25, expected(s, c, 25))
		}
	}
}
