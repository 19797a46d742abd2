package store_test

import (
	"math"
	"slices"
	"strings"
	"testing"
	"unsafe"

	"switchback/api"
	"switchback/frame"
	"switchback/group"
	"switchback/store"
)

const long = "123456789"

// key begins a group, pic goes on with it.
func key(time int, parts ...string) api.Frame { return api.Frame{Time: time, Key: true, Parts: parts} }
func pic(time int, parts ...string) api.Frame { return api.Frame{Time: time, Parts: parts} }

func of(l ...api.Frame) api.Group { return api.Group{Frames: l} }

// at a time: a group of one frame.
func at(time int) api.Group { return of(key(time, "a")) }

// sized: a group of so many bytes, at most 184 (its first part has none, so that there is one).
func sized(size int) api.Group {
	g := of(key(0, ""))
	for size > 0 {
		last := &g.Frames[len(g.Frames)-1]
		part := min(size, 8)
		size -= part
		if len(last.Parts) == 4 {
			g.Frames = append(g.Frames, pic(0, strings.Repeat("x", part)))
			continue
		}
		last.Parts = append(last.Parts, strings.Repeat("x", part))
	}
	return g
}

func sameFrame(a, b api.Frame) bool {
	return a.Time == b.Time && a.Key == b.Key && slices.Equal(a.Parts, b.Parts)
}

func sameGroup(a, b api.Group) bool { return slices.EqualFunc(a.Frames, b.Frames, sameFrame) }

func same(a, b api.Store) bool {
	return a.First == b.First && slices.EqualFunc(a.Groups, b.Groups, sameGroup) && sameGroup(a.Open, b.Open)
}

// with groups, from a number on, and an open one.
func with(first int, open api.Group, l ...api.Group) api.Store {
	return api.Store{First: first, Groups: l, Open: open}
}

var rightStores = []struct {
	name string
	s    api.Store
}{
	{"nothing", api.Store{}},
	{"empty lists", with(0, of([]api.Frame{}...), []api.Group{}...)},
	{"the greatest number", with(api.MaxGroup, of())},
	{"one group", with(7, of(), at(5))},
	{"an open group alone", with(7, at(5))},
	{"groups and an open one", with(7, at(3), at(1), at(2))},
	{"five groups", with(api.MaxGroup, at(6), at(1), at(2), at(3), at(4), at(5))},
	{"times that go back from group to group", with(0, at(1), at(9), at(5), at(7))},
	{"a hundred bytes", with(0, of(), sized(50), sized(49), sized(1))},
	{"a hundred bytes of five", with(0, of(), sized(20), sized(20), sized(20), sized(20), sized(20))},
	{"a single group of more than a hundred", with(0, of(), sized(101))},
	{"the greatest group", with(0, of(), sized(184))},
	{"an open group does not count", with(0, sized(184), sized(50), sized(50))},
	{"a great open group beside a great one", with(0, sized(150), sized(150))},
}

var wrongStores = []struct {
	name string
	s    api.Store
	want api.Errno
}{
	{"First below 0", with(-1, of()), api.ErrRange},
	{"First above MaxGroup", with(api.MaxGroup+1, at(1), at(0)), api.ErrRange},
	{"least First", with(math.MinInt, of(), at(1)), api.ErrRange},
	{"greatest First", with(math.MaxInt, of(), at(1)), api.ErrRange},
	{"six groups", with(0, of(), at(1), at(2), at(3), at(4), at(5), at(6)), api.ErrMany},
	{"very many groups", with(0, of(), make([]api.Group, 100000)...), api.ErrMany},
	{"a group without frames", with(0, of(), at(1), of()), api.ErrNone},
	{"a group that does not begin with Key", with(0, of(), of(pic(1, "a"))), api.ErrState},
	{"a group of seven frames", with(0, of(), of(make([]api.Frame, 7)...)), api.ErrMany},
	{"a group whose time goes back", with(0, of(), at(1), of(key(2, "a"), pic(1, "b"))), api.ErrState},
	{"a group with a time above MaxTime", with(0, of(), at(api.MaxTime+1)), api.ErrRange},
	{"a group with a frame without parts", with(0, of(), of(key(1))), api.ErrNone},
	{"a hundred and one bytes", with(0, of(), sized(50), sized(51)), api.ErrMany},
	{"a hundred and one bytes of three", with(0, of(), sized(0), sized(100), sized(1)), api.ErrMany},
	{"a great group and one without bytes", with(0, of(), sized(101), sized(0)), api.ErrMany},
	{"Open does not begin with Key", with(0, of(pic(1, "a"))), api.ErrState},
	{"Open has two that are Key", with(0, of(key(1, "a"), key(2, "a"))), api.ErrState},
	{"Open has seven frames", with(0, of(make([]api.Frame, 7)...), at(1)), api.ErrMany},
	{"Open has a long part", with(0, of(key(1, long)), at(1)), api.ErrMany},
	{"Open has a time below 0", with(0, at(-1), at(1)), api.ErrRange},
	{"Open has a frame without parts", with(0, of(key(1), pic(2, long)), at(1)), api.ErrNone},
	{"First ahead of many groups", with(-1, of(), make([]api.Group, 6)...), api.ErrRange},
	{"First ahead of a group", with(-1, of(), of()), api.ErrRange},
	{"First ahead of Open", with(-1, of(pic(1, "a"))), api.ErrRange},
	{"many groups ahead of a group", with(0, of(), make([]api.Group, 6)...), api.ErrMany},
	{"many groups ahead of Open", with(0, of(pic(1, "a")), at(1), at(2), at(3), at(4), at(5), at(6)), api.ErrMany},
	{"the first wrong group tells", with(0, of(), at(1), of(pic(1, "a")), of(), of(key(1, long))), api.ErrState},
	{"the first wrong group tells: it is empty", with(0, of(), of(), of(pic(1, "a"))), api.ErrNone},
	{"a group ahead of their bytes", with(0, of(), sized(90), sized(90), of()), api.ErrNone},
	{"a group ahead of Open", with(0, of(pic(1, "a")), of()), api.ErrNone},
	{"bytes ahead of Open", with(0, of(pic(1, "a")), sized(90), sized(90)), api.ErrMany},
}

func TestF1RightStores(t *testing.T) {
	for _, c := range rightStores {
		if e := store.Check(c.s); e != api.OK {
			t.Errorf("%s: Check is %d, want OK", c.name, e)
		}
	}
}

func TestF1WrongStores(t *testing.T) {
	for _, c := range wrongStores {
		if e := store.Check(c.s); e != c.want {
			t.Errorf("%s: Check is %d, want %d", c.name, e, c.want)
		}
	}
}

// TestF1WrongStoresInEveryCall: wrong frames and times, and numbers that are not there, come along: Check of the store tells ahead of them.
func TestF1WrongStoresInEveryCall(t *testing.T) {
	for _, c := range wrongStores {
		for _, f := range append(wrongFrames(), key(5, "a"), pic(5, "a")) {
			if s, closed, e := store.Add(c.s, f); e != c.want || closed || !same(s, api.Store{}) {
				t.Errorf("%s: Add is %+v %v %d, want nothing and %d", c.name, s, closed, e, c.want)
			}
		}
		for _, n := range []int{math.MinInt, -1, 0, 1, api.MaxTime, api.MaxTime + 1, math.MaxInt} {
			if i, e := store.Seek(c.s, n); e != c.want || i != 0 {
				t.Errorf("%s: Seek of %d is %d %d, want 0 %d", c.name, n, i, e, c.want)
			}
			if g, e := store.Get(c.s, n); e != c.want || len(g.Frames) != 0 {
				t.Errorf("%s: Get of %d is %+v %d, want nothing and %d", c.name, n, g, e, c.want)
			}
		}
	}
}

func wrongFrames() []api.Frame {
	return []api.Frame{key(-1, "a"), pic(api.MaxTime+1, "a"), key(5), pic(5), {}, key(5, "", "", "", "", ""), pic(5, long), key(-1, long)}
}

func TestF2ErrorsOfTheFrame(t *testing.T) {
	for _, c := range rightStores {
		for _, f := range wrongFrames() {
			if s, closed, e := store.Add(c.s, f); e != frame.Check(f) || closed || !same(s, api.Store{}) {
				t.Errorf("%s: Add of %+v is %+v %v %d, want nothing and %d", c.name, f, s, closed, e, frame.Check(f))
			}
		}
	}
}

func TestF2Add(t *testing.T) {
	six := of(key(1, "a"), pic(2, "b"), pic(3, "c"), pic(4, "d"), pic(5, "e"), pic(6, "f"))
	n := key(9, "n")
	for _, c := range []struct {
		name   string
		s      api.Store
		f      api.Frame
		want   api.Store
		closed bool
	}{
		{"Key, to nothing", with(7, of()), n, with(7, of(n)), false},
		{"not Key, to nothing: it is lost", with(7, of()), pic(9, "n"), with(7, of()), false},
		{"not Key, to closed groups alone: it is lost", with(7, of(), at(1)), pic(9, "n"), with(7, of(), at(1)), false},
		{"Key, to closed groups alone", with(7, of(), at(1), at(2)), n, with(7, of(n), at(1), at(2)), false},
		{"Key, to five closed groups alone", with(api.MaxGroup, of(), at(1), at(2), at(3), at(4), at(5)), n, with(api.MaxGroup, of(n), at(1), at(2), at(3), at(4), at(5)), false},
		{"it comes to the open group", with(7, at(5), at(1)), pic(6, "n"), with(7, of(key(5, "a"), pic(6, "n")), at(1)), false},
		{"the same time comes to the open group", with(7, at(5)), pic(5, "n"), with(7, of(key(5, "a"), pic(5, "n"))), false},
		{"a time that goes back is lost", with(7, of(key(5, "a"), pic(7, "b")), at(1)), pic(6, "n"), with(7, of(key(5, "a"), pic(7, "b")), at(1)), false},
		{"the sixth comes", with(7, of(six.Frames[:5]...)), six.Frames[5], with(7, six), false},
		{"the seventh is lost", with(7, six, at(1)), pic(7, "n"), with(7, six, at(1)), false},
		{"Key closes the open group", with(7, six), n, with(7, of(n), six), true},
		{"Key of an earlier time closes it, too", with(7, at(5), at(4)), key(0, ""), with(7, of(key(0, "")), at(4), at(5)), true},
		{"the fifth group", with(0, at(5), at(1), at(2), at(3), at(4)), n, with(0, of(n), at(1), at(2), at(3), at(4), at(5)), true},
		{"the sixth group: the first one goes", with(0, at(6), at(1), at(2), at(3), at(4), at(5)), n, with(1, of(n), at(2), at(3), at(4), at(5), at(6)), true},
		{"a hundred bytes stay", with(0, sized(1), sized(50), sized(49)), n, with(0, of(n), sized(50), sized(49), sized(1)), true},
		{"a hundred and one: the first one goes", with(0, sized(2), sized(50), sized(49)), n, with(1, of(n), sized(49), sized(2)), true},
		{"two go", with(0, sized(60), sized(30), sized(30), sized(30)), n, with(2, of(n), sized(30), sized(60)), true},
		{"one without bytes goes, too, if one behind it must", with(0, sized(51), sized(0), sized(50), sized(49)), n, with(2, of(n), sized(49), sized(51)), true},
		{"all but the newest go", with(0, sized(100), sized(1), sized(1), sized(1), sized(1), sized(1)), n, with(5, of(n), sized(100)), true},
		{"the newest one stays, however great", with(0, sized(184), sized(0), sized(0)), n, with(2, of(n), sized(184)), true},
		{"a great one stays, if it is alone", with(0, sized(101)), n, with(0, of(n), sized(101)), true},
		{"a great one goes for a small one", with(0, sized(0), sized(101)), n, with(1, of(n), sized(0)), true},
		{"bytes of the open group do not count", with(0, sized(90), sized(100)), pic(9, "12345678", "12345678"), with(0, of(append(sized(90).Frames, pic(9, "12345678", "12345678"))...), sized(100)), false},
		{"First comes to MaxGroup", with(api.MaxGroup-1, at(6), at(1), at(2), at(3), at(4), at(5)), n, with(api.MaxGroup, of(n), at(2), at(3), at(4), at(5), at(6)), true},
		{"First comes to MaxGroup by two", with(api.MaxGroup-2, sized(100), sized(1), sized(1)), n, with(api.MaxGroup, of(n), sized(100)), true},
		{"First stays MaxGroup", with(api.MaxGroup, at(5), at(1)), n, with(api.MaxGroup, of(n), at(1), at(5)), true},
	} {
		got, closed, e := store.Add(c.s, c.f)
		if e != api.OK || closed != c.closed || !same(got, c.want) {
			t.Errorf("%s: Add is %+v %v %d, want %+v %v OK", c.name, got, closed, e, c.want, c.closed)
		}
		if e := store.Check(got); e != api.OK {
			t.Errorf("%s: Check of %+v is %d", c.name, got, e)
		}
	}
}

func TestF2FirstMayNotBeMoreThanMaxGroup(t *testing.T) {
	for _, s := range []api.Store{
		with(api.MaxGroup, at(6), at(1), at(2), at(3), at(4), at(5)),
		with(api.MaxGroup, sized(100), sized(1)),
		with(api.MaxGroup-1, sized(100), sized(1), sized(1)),
		with(api.MaxGroup-4, sized(100), sized(1), sized(1), sized(1), sized(1), sized(1)),
	} {
		if got, closed, e := store.Add(s, key(9, "n")); e != api.ErrMany || closed || !same(got, api.Store{}) {
			t.Errorf("Add to %+v is %+v %v %d, want nothing and ErrMany", s, got, closed, e)
		}
		if _, _, e := store.Add(s, key(-1, "n")); e != api.ErrRange {
			t.Errorf("Add of a wrong frame to %+v is %d, want ErrRange", s, e)
		}
		if got, closed, e := store.Add(s, pic(9, "n")); e != api.OK || closed || got.First != s.First {
			t.Errorf("Add to %+v of what closes nothing is %+v %v %d, want OK", s, got, closed, e)
		}
	}
}

func TestF3Seek(t *testing.T) {
	rising := with(7, at(40), at(10), at(20), at(30))
	for _, c := range []struct {
		name       string
		s          api.Store
		time, want int
	}{
		{"ahead of all", rising, 0, 7},
		{"just ahead of the first one", rising, 9, 7},
		{"the first one's time", rising, 10, 7},
		{"just behind it", rising, 11, 7},
		{"just ahead of the second one", rising, 19, 7},
		{"the second one's time", rising, 20, 8},
		{"the third one's time", rising, 30, 9},
		{"just ahead of the open one", rising, 39, 9},
		{"the open one's time", rising, 40, 10},
		{"behind all", rising, api.MaxTime, 10},
		{"no open one", with(7, of(), at(10), at(20)), api.MaxTime, 8},
		{"an open one alone, its time", with(7, at(10)), 10, 7},
		{"an open one alone, ahead of it", with(7, at(10)), 9, 7},
		{"the last one of the same time", with(7, at(10), at(10), at(10)), 10, 9},
		{"the last one, though one ahead of it is nearer", with(7, at(5), at(20), at(10), at(30)), 25, 10},
		{"the last one, though the open one is later", with(7, at(50), at(5), at(40), at(3), at(60)), 4, 9},
		{"time of the first frame alone counts", with(7, at(20), of(key(10, "a"), pic(15, "b")), of(key(16, "a"), pic(30, "b"))), 15, 7},
		{"groups behind MaxGroup", with(api.MaxGroup, at(6), at(1), at(2), at(3), at(4), at(5)), 6, api.MaxGroup + 5},
	} {
		if got, e := store.Seek(c.s, c.time); got != c.want || e != api.OK {
			t.Errorf("%s: Seek is %d %d, want %d OK", c.name, got, e, c.want)
		}
	}
}

func TestF3SeekErrors(t *testing.T) {
	for _, s := range []api.Store{{}, with(7, of([]api.Frame{}...), []api.Group{}...), with(7, at(40), at(10)), with(7, of(), at(0)), with(7, at(0))} {
		for _, time := range []int{math.MinInt, -1, api.MaxTime + 1, math.MaxInt} {
			if n, e := store.Seek(s, time); n != 0 || e != api.ErrRange {
				t.Errorf("Seek of %d in %+v is %d %d, want 0 ErrRange", time, s, n, e)
			}
		}
	}
	for _, time := range []int{0, 5, api.MaxTime} {
		for _, s := range []api.Store{{}, with(7, of([]api.Frame{}...), []api.Group{}...)} {
			if n, e := store.Seek(s, time); n != 0 || e != api.ErrNone {
				t.Errorf("Seek of %d in %+v is %d %d, want 0 ErrNone", time, s, n, e)
			}
		}
	}
}

func TestF3Get(t *testing.T) {
	first, second, open := of(key(10, "a", "b"), pic(11, "")), sized(90), of(key(5, "c"), pic(6, "d"))
	for _, c := range []struct {
		name string
		s    api.Store
		n    int
		want api.Group // without frames: ErrNone
	}{
		{"the first one", with(7, open, first, second), 7, first},
		{"the second one", with(7, open, first, second), 8, second},
		{"the open one", with(7, open, first, second), 9, open},
		{"behind the open one", with(7, open, first, second), 10, of()},
		{"ahead of the first one", with(7, open, first, second), 6, of()},
		{"0, if First is more", with(7, open, first, second), 0, of()},
		{"the place, not the number", with(7, open, first, second), 1, of()},
		{"below 0", with(0, open, first), -1, of()},
		{"least number", with(7, open, first), math.MinInt, of()},
		{"greatest number", with(7, open, first), math.MaxInt, of()},
		{"the open one alone", with(7, open), 7, open},
		{"behind the open one alone", with(7, open), 8, of()},
		{"the last one, no open one", with(7, of(), first, second), 8, second},
		{"where the open one would be", with(7, of(), first, second), 9, of()},
		{"no groups", with(7, of()), 7, of()},
		{"nothing", api.Store{}, 0, of()},
		{"the greatest number of all", with(api.MaxGroup, open, at(1), at(2), at(3), at(4), at(5)), api.MaxGroup + 5, open},
		{"one more than that", with(api.MaxGroup, open, at(1), at(2), at(3), at(4), at(5)), api.MaxGroup + 6, of()},
	} {
		want := api.OK
		if len(c.want.Frames) == 0 {
			want = api.ErrNone
		}
		if got, e := store.Get(c.s, c.n); e != want || !sameGroup(got, c.want) {
			t.Errorf("%s: Get is %+v %d, want %+v %d", c.name, got, e, c.want, want)
		}
	}
}

// drawn: numbers below n, the same each time.
type drawn uint64

func (d *drawn) below(n int) int {
	*d = *d*6364136223846793005 + 1442695040888963407
	return int(uint64(*d)>>33) % n
}

// frames of a long sequence: most has the greatest bytes of a part, one of often is Key.
func (d *drawn) frames(count, most, often int) []api.Frame {
	l := make([]api.Frame, count)
	time := 0
	for i := range l {
		time = max(0, time+d.below(7)-2)
		parts := make([]string, 1+d.below(4))
		for j := range parts {
			parts[j] = strings.Repeat(string(rune('a'+i%26)), d.below(most+1))
		}
		l[i] = api.Frame{Time: time, Key: d.below(often) == 0, Parts: parts}
	}
	return l
}

// storeOf frames told another way: of all groups that were closed the last ones, as many as the limits let stay; and how many were closed.
func storeOf(first int, l []api.Frame) (api.Store, int) {
	closed, open, _ := group.All(l)
	count := 0
	for sum := 0; count < min(len(closed), 5); count++ {
		size, _ := group.Size(closed[len(closed)-1-count])
		sum += size
		if count > 0 && sum > 100 {
			break
		}
	}
	gone := len(closed) - count
	return with(first+gone, open, closed[gone:]...), len(closed)
}

// checkFound holds Seek and Get against all groups of a store, gone through one by one.
func checkFound(t *testing.T, s api.Store) {
	all := slices.Clone(s.Groups)
	if len(s.Open.Frames) > 0 {
		all = append(all, s.Open)
	}
	for time := range 60 {
		want := s.First
		for i, g := range all {
			if g.Frames[0].Time <= time {
				want = s.First + i
			}
		}
		if n, e := store.Seek(s, time); len(all) > 0 && (n != want || e != api.OK) {
			t.Fatalf("Seek of %d in %+v is %d %d, want %d OK", time, s, n, e, want)
		}
	}
	for i, want := range all {
		if g, e := store.Get(s, s.First+i); e != api.OK || !sameGroup(g, want) {
			t.Fatalf("Get of %d in %+v is %+v %d, want %+v OK", s.First+i, s, g, e, want)
		}
	}
	for _, n := range []int{s.First - 1, s.First + len(all)} {
		if g, e := store.Get(s, n); e != api.ErrNone || len(g.Frames) != 0 {
			t.Fatalf("Get of %d in %+v is %+v %d, want ErrNone", n, s, g, e)
		}
	}
}

func TestF2LongSequences(t *testing.T) {
	var d drawn
	for range 200 {
		first, most := d.below(api.MaxGroup-100), d.below(9)
		l := d.frames(100, most, 1+d.below(9))
		s, before := with(first, of()), 0
		for i, f := range l {
			got, closed, e := store.Add(s, f)
			want, count := storeOf(first, l[:i+1])
			if e != api.OK || closed != (count > before) || !same(got, want) {
				t.Fatalf("Add of %+v to %+v is %+v %v %d, want %+v OK", f, s, got, closed, e, want)
			}
			if e := store.Check(got); e != api.OK {
				t.Fatalf("Check of %+v is %d", got, e)
			}
			checkFound(t, got)
			s, before = got, count
		}
	}
}

// TestF4WhatWasStoredStays: by its number a group is there till it goes, as it was when it was closed; it never comes back; the newest is there.
func TestF4WhatWasStoredStays(t *testing.T) {
	var d drawn
	for range 100 {
		s := with(d.below(1000), of())
		known := map[int]api.Group{}
		for _, f := range d.frames(300, d.below(9), 1+d.below(5)) {
			was := s
			s, _, _ = store.Add(s, f)
			newest := s.First + len(s.Groups) - 1
			if s.First < was.First || newest < was.First+len(was.Groups)-1 {
				t.Fatalf("Add of %+v to %+v is %+v", f, was, s)
			}
			if len(s.Groups) == 0 && len(was.Groups) > 0 {
				t.Fatalf("the newest group went: %+v, was %+v", s, was)
			}
			if len(s.Groups) > len(was.Groups) || s.First > was.First {
				known[newest] = was.Open
			}
			for n, want := range known {
				g, e := store.Get(s, n)
				if n < s.First && e != api.ErrNone || n >= s.First && (e != api.OK || !sameGroup(g, want)) {
					t.Fatalf("Get of %d in %+v is %+v %d, it was %+v", n, s, g, e, want)
				}
			}
		}
	}
}

// spare: a store with room behind each list.
func spare() api.Store {
	parts := func() []string { return []string{"a", "spare"}[:1] }
	frames := func(time int) []api.Frame { return []api.Frame{key(time, parts()...), pic(9, "spare")}[:1] }
	groups := []api.Group{of(frames(1)...), of(frames(2)...), at(99)}
	return with(7, of(frames(3)...), groups[:2]...)
}

// whole: all that the lists of a store have, their spare room too.
func whole(s api.Store) api.Store {
	all := slices.Clone(s.Groups[:cap(s.Groups)])
	for i := range all {
		all[i] = wholeGroup(all[i])
	}
	return with(s.First, wholeGroup(s.Open), all...)
}

func wholeGroup(g api.Group) api.Group {
	all := slices.Clone(g.Frames[:cap(g.Frames)])
	for i, f := range all {
		all[i].Parts = f.Parts[:cap(f.Parts)]
	}
	return of(all...)
}

func TestP2WhatIsHandedInIsOnlyRead(t *testing.T) {
	for _, f := range []api.Frame{key(5, "n"), pic(5, "n"), pic(0, "n"), key(-1, "n")} {
		s := spare()
		store.Check(s)
		store.Add(s, f)
		store.Seek(s, 2)
		for n := range 12 {
			store.Get(s, n)
		}
		if !same(s, spare()) || !same(whole(s), whole(spare())) {
			t.Errorf("Add of %+v: what was handed in is %+v, was %+v", f, whole(s), whole(spare()))
		}
	}
}

// scribble over all that a store reaches.
func scribble(s api.Store) {
	for _, g := range append(slices.Clone(s.Groups), s.Open) {
		scribbleGroup(g)
	}
	for i := range s.Groups {
		s.Groups[i] = of()
	}
}

func scribbleGroup(g api.Group) {
	for i, f := range g.Frames {
		for j := range f.Parts {
			f.Parts[j] = "x"
		}
		g.Frames[i] = api.Frame{}
	}
}

func TestP2AnswersAreNewMemory(t *testing.T) {
	for _, f := range []api.Frame{key(5, "n"), pic(5, "n"), pic(0, "n")} {
		s, again := spare(), f
		again.Parts = slices.Clone(f.Parts)
		want, _, _ := store.Add(spare(), again)
		got, _, _ := store.Add(s, f)
		scribble(s)
		f.Parts[0] = "x"
		if !same(got, want) {
			t.Errorf("a later change of what was handed in to Add is seen: %+v, want %+v", got, want)
		}
		scribble(want)
		if again.Parts[0] != "n" {
			t.Error("a frame that was handed in is changed by way of the answer")
		}
	}
	for n := 7; n <= 9; n++ {
		s := spare()
		got, _ := store.Get(s, n)
		want, _ := store.Get(spare(), n)
		scribble(s)
		if !sameGroup(got, want) || len(got.Frames) != 1 {
			t.Errorf("a later change of what was handed in to Get is seen: %+v, want %+v", got, want)
		}
		s = spare()
		got, _ = store.Get(s, n)
		scribbleGroup(got)
		if !same(s, spare()) {
			t.Errorf("what was handed in to Get is changed by way of the answer: %+v", s)
		}
	}
}

// TestP2NoTwoListsShareMemory: what is handed in shares all that it can, what comes out nothing.
func TestP2NoTwoListsShareMemory(t *testing.T) {
	f := key(5, "a", "b")
	g := of(f)
	got, _, _ := store.Add(with(7, g, g, g), f)
	lists := map[any]int{}
	for _, g := range append(slices.Clone(got.Groups), got.Open) {
		lists[&g.Frames[0]]++
		lists[&g.Frames[0].Parts[0]]++
		clear(g.Frames[0].Parts[2:cap(g.Frames[0].Parts)])
		clear(g.Frames[1:cap(g.Frames)])
	}
	clear(got.Groups[3:cap(got.Groups)])
	if len(lists) != 8 || !same(got, with(7, g, g, g, g)) {
		t.Errorf("lists share memory: %d of 8 are by themselves: %+v", len(lists), got)
	}
}

func TestP2TextsAreNewMemory(t *testing.T) {
	was := map[*byte]string{}
	text := func(s string) string {
		own := string([]byte(s))
		was[unsafe.StringData(own)] = s
		return own
	}
	s := with(7, of(key(3, text("three"))), of(key(1, text("one"))), of(key(2, text("two"))))
	got, _, _ := store.Add(s, key(4, text("four")))
	all := append(slices.Clone(got.Groups), got.Open)
	for n := 7; n <= 9; n++ {
		g, _ := store.Get(s, n)
		all = append(all, g)
	}
	for _, g := range all {
		if part := g.Frames[0].Parts[0]; was[unsafe.StringData(part)] != "" {
			t.Errorf("%q shares memory with what was handed in", part)
		}
	}
}

func TestP3AnswersAreTheSameAgain(t *testing.T) {
	s := with(7, at(6), at(1), at(2), at(3), at(4), at(5))
	for range 3 {
		for _, c := range wrongStores {
			store.Check(c.s)
			store.Add(c.s, key(5, "a"))
			store.Seek(c.s, 5)
			store.Get(c.s, 7)
		}
		got, closed, e := store.Add(s, key(7, "n"))
		if e != api.OK || !closed || !same(got, with(8, of(key(7, "n")), at(2), at(3), at(4), at(5), at(6))) {
			t.Errorf("Add is %+v %v %d", got, closed, e)
		}
		if n, e := store.Seek(s, 3); n != 9 || e != api.OK {
			t.Errorf("Seek is %d %d", n, e)
		}
		if g, e := store.Get(s, 12); e != api.OK || !sameGroup(g, at(6)) {
			t.Errorf("Get is %+v %d", g, e)
		}
		if e := store.Check(s); e != api.OK {
			t.Errorf("Check is %d", e)
		}
	}
}
