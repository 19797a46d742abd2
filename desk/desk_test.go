package desk_test

import (
	"cmp"
	"fmt"
	"math"
	"reflect"
	"slices"
	"strconv"
	"strings"
	"testing"
	"unsafe"

	"switchback/api"
	"switchback/cursor"
	"switchback/desk"
	"switchback/out"
	"switchback/track"
	"switchback/wire"
)

// packet: how has f, e and k of those that are First, End and Key.
func packet(seq, time int, how, text string) api.Packet {
	return api.Packet{Seq: seq, Time: time, First: strings.Contains(how, "f"), End: strings.Contains(how, "e"), Key: strings.Contains(how, "k"), Text: text}
}

// at a number.
func at(n, time int, how, text string) api.Slot {
	return api.Slot{N: n, P: packet(n%65536, time, how, text)}
}

func key(time int, parts ...string) api.Frame { return api.Frame{Time: time, Key: true, Parts: parts} }
func pic(time int, parts ...string) api.Frame { return api.Frame{Time: time, Parts: parts} }

func of(l ...api.Frame) api.Group { return api.Group{Frames: l} }

// with groups, from a number on, and an open one.
func with(first int, open api.Group, l ...api.Group) api.Store {
	return api.Store{First: first, Groups: l, Open: open}
}

// having a store: a track to which nothing came.
func having(s api.Store) api.Track { return api.Track{Store: s} }

// sample: groups 3, 4 and the open one, 5; something is open, and something waits.
func sample() api.Track {
	return api.Track{
		Last:    70007,
		Buffer:  api.Buffer{Next: 70004, Held: []api.Slot{at(70006, 42, "fek", "held1"), at(70007, 43, "fe", "held2")}},
		Builder: api.Builder{Open: []api.Slot{at(70003, 41, "f", "open1")}},
		Store:   with(3, of(key(30, "ee"), pic(31, "ff")), of(key(10, "aa"), pic(12, "bb", "cc")), of(key(20, "dd"))),
	}
}

// viewer in a mode, at a place, to which something was sent or not.
func viewer(mode, group, frame int, o api.Out) api.Viewer {
	return api.Viewer{Cursor: api.Cursor{Mode: mode, Group: group, Frame: frame}, Out: o}
}

func feed(p api.Packet) api.Act {
	s, e := wire.Encode(p)
	if e != api.OK {
		panic(e)
	}
	return api.Act{Kind: api.ActFeed, Text: s}
}

func send(n int) api.Act { return api.Act{Kind: api.ActSend, N: n} }
func seek(n int) api.Act { return api.Act{Kind: api.ActSeek, N: n} }

var live, pause = api.Act{Kind: api.ActLive}, api.Act{Kind: api.ActPause}

// answer of Do.
type answer struct {
	t api.Track
	v api.Viewer
	l []api.Packet
	e api.Errno
}

func do(t api.Track, v api.Viewer, a api.Act) answer {
	x, y, l, e := desk.Do(t, v, a)
	return answer{x, y, l, e}
}

// told of an answer: a list is told the same way if it is nil and if it is empty.
func told(a any) string { return fmt.Sprintf("%+v", a) }

func wantDo(t *testing.T, x api.Track, v api.Viewer, a api.Act, want answer) {
	t.Helper()
	if got := do(x, v, a); told(got) != told(want) {
		t.Fatalf("Do of %+v by %+v in\n%+v is\n%+v, want\n%+v", a, v, x, got, want)
	}
}

// part of what is handed in, and the error that is its own.
type part[T any] struct {
	is   T
	want api.Errno
}

func tracks() []part[api.Track] {
	return []part[api.Track]{
		{api.Track{}, 0},
		{sample(), 0},
		{having(with(api.MaxGroup, of())), 0},
		{api.Track{Last: 5}, api.ErrRange},
		{api.Track{Last: 70000, Buffer: api.Buffer{Next: 70000, Held: make([]api.Slot, 5)}}, api.ErrMany},
		{having(with(0, of(), of())), api.ErrNone},
		{api.Track{Last: 70000}, api.ErrState},
	}
}

func viewers() []part[api.Viewer] {
	return []part[api.Viewer]{
		{api.Viewer{}, 0},
		{viewer(0, 0, 0, api.Out{Last: 5, Time: 6, Shift: -7}), 0},
		{viewer(api.Live, 5, 1, api.Out{Last: 1}), 0},
		{viewer(api.Paused, 0, 6, api.Out{Last: api.MaxN, Time: api.MaxTime, Shift: api.MaxTime}), 0},
		{viewer(api.Replay, 100006, 0, api.Out{Shift: -api.MaxTime}), 0},
		{viewer(4, 0, 0, api.Out{}), api.ErrKind},
		{viewer(-1, -1, 0, api.Out{Last: -1}), api.ErrKind},
		{viewer(0, 1, 0, api.Out{}), api.ErrKind},
		{viewer(0, 0, 1, api.Out{}), api.ErrKind},
		{viewer(0, 0, 7, api.Out{Time: -1}), api.ErrKind},
		{viewer(api.Live, 100007, 0, api.Out{}), api.ErrRange},
		{viewer(api.Live, 0, 7, api.Out{}), api.ErrRange},
		{viewer(0, 0, 0, api.Out{Last: -1}), api.ErrRange},
		{viewer(api.Live, 0, 0, api.Out{Time: api.MaxTime + 1}), api.ErrRange},
		{viewer(api.Paused, 0, 0, api.Out{Shift: math.MinInt}), api.ErrRange},
	}
}

func acts() []part[api.Act] {
	return []part[api.Act]{
		{api.Act{Kind: api.ActFeed}, 0},
		{feed(packet(4468, 41, "e", "open2")), 0},
		{feed(packet(4468, 41, "fek", "zz")), 0},
		{live, 0}, {pause, 0},
		{seek(0), 0}, {seek(25), 0}, {seek(-1), 0}, {seek(api.MaxTime + 1), 0},
		{send(0), 0}, {send(25), 0}, {send(api.MaxTime), 0}, {send(-1), 0}, {send(math.MaxInt), 0},
		{api.Act{}, api.ErrKind}, {api.Act{Kind: -1}, api.ErrKind}, {api.Act{Kind: 6}, api.ErrKind},
		{api.Act{Kind: math.MaxInt, N: 1, Text: "x"}, api.ErrKind}, {api.Act{Kind: math.MinInt}, api.ErrKind},
		{api.Act{Kind: api.ActFeed, N: 1}, api.ErrForm}, {api.Act{Kind: api.ActFeed, N: -1, Text: feed(packet(1, 1, "f", "a")).Text}, api.ErrForm},
		{api.Act{Kind: api.ActLive, N: 1}, api.ErrForm}, {api.Act{Kind: api.ActLive, Text: "x"}, api.ErrForm},
		{api.Act{Kind: api.ActPause, N: -1}, api.ErrForm}, {api.Act{Kind: api.ActPause, Text: "x"}, api.ErrForm},
		{api.Act{Kind: api.ActSeek, N: 5, Text: "x"}, api.ErrForm}, {api.Act{Kind: api.ActSeek, N: -5, Text: "x"}, api.ErrForm},
		{api.Act{Kind: api.ActSend, N: 5, Text: "x"}, api.ErrForm}, {api.Act{Kind: api.ActSend, N: -5, Text: "\x00"}, api.ErrForm},
	}
}

// asL1Says: Do, by the calls of the chapters ahead; what is handed in is right.
func asL1Says(t api.Track, v api.Viewer, a api.Act) answer {
	unset := v.Cursor == api.Cursor{}
	now := answer{t: t, v: v}
	switch {
	case a.Kind == api.ActFeed:
		now.t, _, now.e = track.Feed(t, a.Text)
	case a.Kind == api.ActLive:
		now.v.Cursor, now.e = cursor.Live(t.Store)
	case a.Kind == api.ActSeek:
		now.v.Cursor, now.e = cursor.Seek(t.Store, a.N)
	case unset:
		now.e = api.ErrState
	case a.Kind == api.ActPause:
		now.v.Cursor, now.e = cursor.Pause(v.Cursor)
	default:
		for more := true; more && now.e == api.OK; {
			var f api.Frame
			var turn bool
			var l []api.Packet
			was := now.v.Cursor
			now.v.Cursor, f, more, turn, now.e = cursor.Next(t.Store, was, a.N)
			if more {
				now.v.Out, l, now.e = out.Send(now.v.Out, f, turn || was.Frame == 0)
				now.l = append(now.l, l...)
			}
		}
	}
	if now.e != api.OK {
		return answer{e: now.e}
	}
	return now
}

// TestL1Errors: all threes of what is handed in, right and wrong: errors in their order, and with one nothing else.
func TestL1Errors(t *testing.T) {
	for _, x := range tracks() {
		for _, v := range viewers() {
			for _, a := range acts() {
				if wrong := cmp.Or(x.want, v.want, a.want); wrong != api.OK {
					wantDo(t, x.is, v.is, a.is, answer{e: wrong})
				} else {
					wantDo(t, x.is, v.is, a.is, asL1Says(x.is, v.is, a.is))
				}
			}
		}
	}
}

func TestL1ErrorsOfTheCalls(t *testing.T) {
	going := having(with(3, of(key(20, "c")), of(key(10, "a"), pic(12, "b")), of(key(5, "z"))))
	for _, c := range []struct {
		name string
		t    api.Track
		v    api.Viewer
		a    api.Act
		want api.Errno
	}{
		{"Feed of no packet", sample(), api.Viewer{}, api.Act{Kind: api.ActFeed, Text: "x"}, api.ErrForm},
		{"Feed of a packet that is not right", sample(), api.Viewer{}, api.Act{Kind: api.ActFeed, Text: "\x84\x00\x00\x00\x00\x00\x00\x00"}, api.ErrState},
		{"Feed of a number that is none", sample(), api.Viewer{}, feed(packet(50000, 1, "", "")), api.ErrRange},
		{"Live of nothing", api.Track{}, api.Viewer{}, live, api.ErrNone},
		{"Seek of nothing", api.Track{}, api.Viewer{}, seek(5), api.ErrNone},
		{"Seek of no time", api.Track{}, api.Viewer{}, seek(-1), api.ErrRange},
		{"Pause from the beginning", sample(), api.Viewer{}, pause, api.ErrState},
		{"Pause from the beginning, though something was sent", sample(), viewer(0, 0, 0, api.Out{Last: 5}), pause, api.ErrState},
		{"Send from the beginning", sample(), api.Viewer{}, send(50), api.ErrState},
		{"Send from the beginning, of nothing", api.Track{}, api.Viewer{}, send(50), api.ErrState},
		{"Send from the beginning, up to no time", sample(), api.Viewer{}, send(-1), api.ErrState},
		{"Send up to no time", sample(), viewer(api.Live, 5, 0, api.Out{}), send(api.MaxTime + 1), api.ErrRange},
		{"Send up to no time, paused", sample(), viewer(api.Paused, 5, 0, api.Out{}), send(-1), api.ErrRange},
		{"Send up to no time, where there is none", sample(), viewer(api.Live, 5, 2, api.Out{}), send(-1), api.ErrRange},
		{"times that would go back", going, viewer(api.Replay, 3, 0, api.Out{}), send(50), api.ErrState},
		{"times that would go back, live", going, viewer(api.Live, 3, 2, api.Out{Last: 2, Time: 12}), send(0), api.ErrState},
		{"no room for the time", sample(), viewer(api.Live, 5, 0, api.Out{Last: 1, Time: api.MaxTime - 9}), send(0), api.ErrMany},
		{"no room for the second time", sample(), viewer(api.Live, 5, 0, api.Out{Last: 1, Time: api.MaxTime - 10}), send(0), api.ErrMany},
		{"no room for the numbers", sample(), viewer(api.Replay, 3, 0, api.Out{Last: api.MaxN - 2}), send(15), api.ErrMany},
	} {
		if got := do(c.t, c.v, c.a); told(got) != told(answer{e: c.want}) {
			t.Errorf("%s: Do is %+v, want nothing and %d", c.name, got, c.want)
		}
	}
}

func TestL1SetsTheCursor(t *testing.T) {
	o := api.Out{Last: 5, Time: 70, Shift: -3}
	at5, paused := viewer(api.Live, 5, 2, o), viewer(api.Paused, 3, 1, o)
	for _, c := range []struct {
		name string
		v    api.Viewer
		a    api.Act
		want api.Cursor
	}{
		{"Live from the beginning", viewer(0, 0, 0, o), live, api.Cursor{Mode: api.Live, Group: 5}},
		{"Live again", at5, live, api.Cursor{Mode: api.Live, Group: 5}},
		{"Live of a paused one", paused, live, api.Cursor{Mode: api.Live, Group: 5}},
		{"Seek from the beginning", viewer(0, 0, 0, o), seek(19), api.Cursor{Mode: api.Replay, Group: 3}},
		{"Seek of a live one", at5, seek(20), api.Cursor{Mode: api.Replay, Group: 4}},
		{"Seek of a paused one", paused, seek(0), api.Cursor{Mode: api.Replay, Group: 3}},
		{"Seek behind all", paused, seek(api.MaxTime), api.Cursor{Mode: api.Replay, Group: 5}},
		{"Pause of a live one", at5, pause, api.Cursor{Mode: api.Paused, Group: 5, Frame: 2}},
		{"Pause of a paused one", paused, pause, paused.Cursor},
		{"Pause of a place that is gone", viewer(api.Replay, 99, 4, o), pause, api.Cursor{Mode: api.Paused, Group: 99, Frame: 4}},
	} {
		want := answer{t: sample(), v: api.Viewer{Cursor: c.want, Out: o}}
		if got := do(sample(), c.v, c.a); told(got) != told(want) {
			t.Errorf("%s: Do is\n%+v, want\n%+v", c.name, got, want)
		}
	}
	nothing := having(with(4, of(key(9, "a"))))
	wantDo(t, nothing, api.Viewer{}, live, answer{t: nothing, v: viewer(api.Live, 4, 0, api.Out{})})
}

func TestL1Feeds(t *testing.T) {
	for _, v := range []api.Viewer{{}, viewer(api.Live, 5, 2, api.Out{Last: 5}), viewer(api.Paused, 99, 0, api.Out{Time: 5})} {
		want := sample()
		want.Buffer.Next, want.Builder.Open = 70005, nil
		want.Store.Open.Frames = append(want.Store.Open.Frames, pic(41, "open1", "open2"))
		wantDo(t, sample(), v, feed(packet(4468, 41, "e", "open2")), answer{t: want, v: v})
		wantDo(t, sample(), v, feed(packet(4460, 41, "e", "late")), answer{t: sample(), v: v})
		first := api.Track{Last: 65541, Buffer: api.Buffer{Next: 65542}, Store: with(0, of(key(9, "a")))}
		wantDo(t, api.Track{}, v, feed(packet(5, 9, "fek", "a")), answer{t: first, v: v})
	}
}

func TestL1Sends(t *testing.T) {
	const r = api.Replay
	for _, c := range []struct {
		name string
		v    api.Viewer
		upto int
		want api.Viewer
		l    []api.Packet
	}{
		{"live, just set", viewer(1, 5, 0, api.Out{}), 0, viewer(1, 5, 2, api.Out{Last: 2, Time: 11, Shift: -20}),
			[]api.Packet{packet(1, 10, "fek", "ee"), packet(2, 11, "fe", "ff")}},
		{"live, just set, behind others", viewer(1, 5, 0, api.Out{Last: 65535, Time: 50, Shift: 7}), 0, viewer(1, 5, 2, api.Out{Last: 65537, Time: 61, Shift: 30}),
			[]api.Packet{packet(0, 60, "fek", "ee"), packet(1, 61, "fe", "ff")}},
		{"live, on", viewer(1, 5, 1, api.Out{Last: 8, Time: 50, Shift: 20}), 0, viewer(1, 5, 2, api.Out{Last: 9, Time: 51, Shift: 20}),
			[]api.Packet{packet(9, 51, "fe", "ff")}},
		{"live, on into other groups", viewer(1, 3, 1, api.Out{Last: 8, Time: 20, Shift: 10}), 0, viewer(1, 5, 2, api.Out{Last: 13, Time: 41, Shift: 10}),
			[]api.Packet{packet(9, 22, "f", "bb"), packet(10, 22, "e", "cc"), packet(11, 30, "fek", "dd"), packet(12, 40, "fek", "ee"), packet(13, 41, "fe", "ff")}},
		{"live, none yet", viewer(1, 5, 2, api.Out{Last: 8, Time: 50, Shift: 20}), 99, viewer(1, 5, 2, api.Out{Last: 8, Time: 50, Shift: 20}), nil},
		{"live, its place is gone", viewer(1, 2, 4, api.Out{Last: 8, Time: 50, Shift: 40}), 0, viewer(1, 5, 2, api.Out{Last: 10, Time: 61, Shift: 30}),
			[]api.Packet{packet(9, 60, "fek", "ee"), packet(10, 61, "fe", "ff")}},
		{"replay, just set", viewer(r, 3, 0, api.Out{Last: 8, Time: 50, Shift: 20}), 11, viewer(r, 3, 1, api.Out{Last: 9, Time: 60, Shift: 50}),
			[]api.Packet{packet(9, 60, "fek", "aa")}},
		{"replay, on", viewer(r, 3, 1, api.Out{Last: 9, Time: 60, Shift: 50}), 20, viewer(r, 4, 1, api.Out{Last: 12, Time: 70, Shift: 50}),
			[]api.Packet{packet(10, 62, "f", "bb"), packet(11, 62, "e", "cc"), packet(12, 70, "fek", "dd")}},
		{"replay, just set, not come to", viewer(r, 3, 0, api.Out{Last: 8, Time: 50, Shift: 20}), 9, viewer(r, 3, 0, api.Out{Last: 8, Time: 50, Shift: 20}), nil},
		{"replay, its place is gone", viewer(r, 9, 1, api.Out{Last: 8, Time: 50, Shift: 20}), 15, viewer(r, 3, 2, api.Out{Last: 11, Time: 62, Shift: 50}),
			[]api.Packet{packet(9, 60, "fek", "aa"), packet(10, 62, "f", "bb"), packet(11, 62, "e", "cc")}},
		{"replay, its place is gone, not come to", viewer(r, 9, 1, api.Out{Last: 8, Time: 50, Shift: 20}), 9, viewer(r, 9, 1, api.Out{Last: 8, Time: 50, Shift: 20}), nil},
		{"replay, the first one that is sent", viewer(r, 4, 0, api.Out{}), 29, viewer(r, 4, 1, api.Out{Last: 1, Time: 10, Shift: -10}),
			[]api.Packet{packet(1, 10, "fek", "dd")}},
		{"paused", viewer(2, 3, 0, api.Out{Last: 8, Time: 50, Shift: 20}), 99, viewer(2, 3, 0, api.Out{Last: 8, Time: 50, Shift: 20}), nil},
		{"paused, its place is gone", viewer(2, 9, 1, api.Out{Last: 8, Time: 50, Shift: 20}), 99, viewer(2, 9, 1, api.Out{Last: 8, Time: 50, Shift: 20}), nil},
	} {
		want := answer{t: sample(), v: c.want, l: c.l}
		if got := do(sample(), c.v, send(c.upto)); told(got) != told(want) {
			t.Errorf("%s: Do is\n%+v, want\n%+v", c.name, got, want)
		}
	}
	wantDo(t, api.Track{}, viewer(r, 3, 1, api.Out{Last: 1}), send(5), answer{v: viewer(r, 3, 1, api.Out{Last: 1})})
}

// drawn: numbers below n, the same each time.
type drawn uint64

func (d *drawn) below(n int) int {
	*d = *d*6364136223846793005 + 1442695040888963407
	return int(uint64(*d)>>33) % n
}

// source of packets: pictures of one to four packets, of which some come late, and some never. What they say is theirs alone.
type source struct {
	drawn
	n, time, left int
	steady        bool // times never go back
	late          []api.Packet
	fed           map[string]api.Packet
}

// next packet that comes.
func (s *source) next() api.Packet {
	for {
		if len(s.late) > 0 && s.below(3) == 0 {
			at := s.below(len(s.late))
			p := s.late[at]
			s.late = slices.Delete(s.late, at, at+1)
			return p
		}
		p := s.make()
		switch s.below(8) {
		case 0, 1:
			s.late = append(s.late, p)
		case 2: // it is lost
		default:
			return p
		}
	}
}

func (s *source) make() api.Packet {
	p := api.Packet{Seq: s.n % 65536, Text: strconv.Itoa(s.n % 10000000)}
	if s.left == 0 {
		s.left, s.time = 1+s.below(4), s.time+s.below(6)
		if !s.steady && s.below(9) == 0 {
			s.time /= 2
		}
		p.First, p.Key = true, s.below(3) == 0
	}
	s.left--
	s.n++
	p.Time, p.End = s.time, s.left == 0
	if s.fed == nil {
		s.fed = map[string]api.Packet{}
	}
	s.fed[p.Text] = p
	return p
}

// act that may be right or not.
func (s *source) act() api.Act {
	switch k := s.below(40); {
	case k < 24:
		return feed(s.next())
	case k < 26:
		return live
	case k < 28:
		return pause
	case k < 31:
		return seek(max(0, s.time-s.below(40)))
	case k < 38:
		return send(max(0, s.time-s.below(20)))
	}
	l := acts()
	return l[s.below(len(l))].is
}

func TestL1LongScripts(t *testing.T) {
	var d drawn
	for range 60 {
		s := source{drawn: drawn(d.below(1000000)), n: 65400 + d.below(200)}
		now := answer{}
		for range 300 {
			a := s.act()
			want := answer{e: cmp.Or(errorOf(a), asL1Says(now.t, now.v, a).e)}
			if want.e == api.OK {
				want = asL1Says(now.t, now.v, a)
			}
			wantDo(t, now.t, now.v, a, want)
			if want.e == api.OK {
				now = want
			}
		}
	}
}

// errorOf an act's own.
func errorOf(a api.Act) api.Errno {
	for _, x := range acts() {
		if x.is == a {
			return x.want
		}
	}
	return api.OK
}

// ran: answer of Run.
type ran struct {
	t     api.Track
	v     api.Viewer
	l     []api.Packet
	acted []api.Errno
	e     api.Errno
}

func run(l []api.Act) ran {
	t, v, sent, acted, e := desk.Run(l)
	return ran{t, v, sent, acted, e}
}

func TestL2Run(t *testing.T) {
	script := []api.Act{
		pause, // there is no cursor yet
		feed(packet(65535, 10, "fek", "a")), live, send(0),
		feed(packet(1, 12, "e", "c")), {Kind: 9}, feed(packet(0, 12, "fk", "b")),
		send(-1), send(0), {Kind: api.ActFeed, Text: "x"}, seek(11), send(11), pause, send(99),
	}
	group := of(key(10, "a"))
	want := ran{
		t:     api.Track{Last: 131073, Buffer: api.Buffer{Next: 131074}, Store: with(0, of(key(12, "b", "c")), group)},
		v:     viewer(api.Paused, 0, 1, api.Out{Last: 4, Time: 22, Shift: 12}),
		l:     []api.Packet{packet(1, 10, "fek", "a"), packet(2, 12, "fk", "b"), packet(3, 12, "e", "c"), packet(4, 22, "fek", "a")},
		acted: []api.Errno{4, 0, 0, 0, 0, 6, 0, 3, 0, 1, 0, 0, 0, 0},
	}
	if got := run(script); told(got) != told(want) {
		t.Errorf("Run is\n%+v, want\n%+v", got, want)
	}
	want = ran{t: api.Track{Last: 131071, Buffer: api.Buffer{Next: 131072}, Store: with(0, group)}, acted: []api.Errno{4, 0}}
	if got := run(script[:2]); told(got) != told(want) {
		t.Errorf("Run of two is\n%+v, want\n%+v", got, want)
	}
}

func TestL2RunHasAtMostMaxScript(t *testing.T) {
	for _, n := range []int{0, 1, 59, 60, 61, 62, 1000} {
		l := make([]api.Act, n)
		want := ran{}
		for i := range l {
			if l[i] = feed(packet(i%60, 5, "fe", "a")); n <= 60 {
				want.acted = append(want.acted, api.OK)
				want.t.Last = api.MinN + i
				want.t.Buffer.Next = api.MinN + i + 1
			}
		}
		if n > 60 {
			want.e = api.ErrMany
		}
		if got := run(l); told(got) != told(want) {
			t.Errorf("Run of %d is %+v, want %+v", n, got, want)
		}
	}
	if got := run(make([]api.Act, 61)); told(got) != told(ran{e: api.ErrMany}) {
		t.Errorf("Run of 61 wrong ones is %+v, want nothing and ErrMany", got)
	}
}

// TestL2RunIsOneByOne: as if each act were done by itself; one that has an error changes nothing.
func TestL2RunIsOneByOne(t *testing.T) {
	var d drawn
	for range 300 {
		s := source{drawn: drawn(d.below(1000000)), n: 65500 + d.below(100)}
		var script []api.Act
		var want ran
		for range d.below(61) {
			a := s.act()
			script = append(script, a)
			got := do(want.t, want.v, a)
			want.acted = append(want.acted, got.e)
			if got.e == api.OK {
				want.t, want.v, want.l = got.t, got.v, append(want.l, got.l...)
			}
		}
		if got := run(script); told(got) != told(want) {
			t.Fatalf("Run of %+v is\n%+v, want\n%+v", script, got, want)
		}
	}
}

func watchIs(t *testing.T, name string, l []api.Packet, want []api.Frame, wantErr api.Errno) {
	t.Helper()
	if got, e := desk.Watch(l); told(got) != told(want) || e != wantErr {
		t.Errorf("%s: Watch is %+v %d, want %+v %d", name, got, e, want, wantErr)
	}
}

func TestL2Watch(t *testing.T) {
	for _, c := range []struct {
		name string
		l    []api.Packet
		want []api.Frame
	}{
		{"nothing", nil, nil},
		{"no packets", []api.Packet{}, nil},
		{"a picture", []api.Packet{packet(5, 9, "fek", "a")}, []api.Frame{key(9, "a")}},
		{"pictures", []api.Packet{packet(5, 9, "fk", "a"), packet(6, 9, "", "b"), packet(7, 9, "e", "c"), packet(8, 9, "fe", "")}, []api.Frame{key(9, "a", "b", "c"), pic(9, "")}},
		{"one that does not begin", []api.Packet{packet(5, 9, "e", "a"), packet(6, 9, "fe", "b")}, []api.Frame{pic(9, "b")}},
		{"one that does not end", []api.Packet{packet(5, 9, "fe", "a"), packet(6, 9, "f", "b")}, []api.Frame{pic(9, "a")}},
		{"one that is missing", []api.Packet{packet(5, 9, "f", "a"), packet(7, 9, "e", "c"), packet(8, 9, "fe", "d")}, []api.Frame{pic(9, "d")}},
		{"one that goes back", []api.Packet{packet(5, 9, "f", "a"), packet(5, 9, "e", "b"), packet(4, 9, "fe", "c")}, []api.Frame{pic(9, "c")}},
		{"times that differ", []api.Packet{packet(5, 9, "f", "a"), packet(6, 10, "e", "b")}, nil},
		{"numbers that go round", []api.Packet{packet(65534, 9, "f", "a"), packet(65535, 9, "", "b"), packet(0, 9, "", "c"), packet(1, 9, "e", "d")}, []api.Frame{pic(9, "a", "b", "c", "d")}},
		{"numbers that go far", []api.Packet{packet(0, 9, "fe", "a"), packet(32768, 9, "fe", "b"), packet(0, 9, "fe", "c"), packet(32769, 9, "fe", "d")}, []api.Frame{pic(9, "a"), pic(9, "b"), pic(9, "c"), pic(9, "d")}},
		{"the last number there is to go back to", []api.Packet{packet(32767, 9, "fe", "a"), packet(0, 9, "fe", "b")}, []api.Frame{pic(9, "a"), pic(9, "b")}},
		{"the greatest first number", []api.Packet{packet(65535, 9, "fe", "a"), packet(32768, 9, "fe", "b")}, []api.Frame{pic(9, "a"), pic(9, "b")}},
	} {
		watchIs(t, c.name, c.l, c.want, api.OK)
	}
}

func TestL2WatchErrors(t *testing.T) {
	good, long := packet(5, 9, "fe", "a"), packet(6, 9, "fe", "123456789")
	gone, keyAlone := packet(65535, 9, "fe", "a"), packet(6, 9, "ek", "a") // behind 5, 65535 would be a number below MinN
	for _, c := range []struct {
		name string
		l    []api.Packet
		want api.Errno
	}{
		{"Seq below 0", []api.Packet{packet(-1, 9, "fe", "a")}, api.ErrRange},
		{"Seq above MaxSeq", []api.Packet{good, packet(65536, 9, "fe", "a")}, api.ErrRange},
		{"the least Seq", []api.Packet{packet(math.MinInt, 9, "fe", "a"), good}, api.ErrRange},
		{"the greatest Seq", []api.Packet{packet(math.MaxInt, 9, "fe", "a"), good}, api.ErrRange},
		{"a time above MaxTime", []api.Packet{packet(5, api.MaxTime+1, "fe", "a")}, api.ErrRange},
		{"a text too long", []api.Packet{good, long}, api.ErrMany},
		{"Key, not First", []api.Packet{good, good, keyAlone}, api.ErrState},
		{"the first wrong packet tells", []api.Packet{good, long, keyAlone}, api.ErrMany},
		{"the first wrong packet tells, the other way round", []api.Packet{good, keyAlone, long}, api.ErrState},
		{"no number", []api.Packet{good, gone}, api.ErrRange},
		{"no number, at last", []api.Packet{packet(40000, 9, "fe", "a"), packet(10000, 9, "fe", "b"), packet(50000, 9, "fe", "c")}, api.ErrRange},
		{"Check ahead of a number that is none", []api.Packet{good, gone, long}, api.ErrMany},
		{"too many ahead of Check", append(make([]api.Packet, 100), long), api.ErrMany},
		{"too many ahead of Seq", append(make([]api.Packet, 100), packet(-1, 0, "", "")), api.ErrMany},
		{"too many ahead of Key", append(make([]api.Packet, 101), keyAlone), api.ErrMany},
	} {
		watchIs(t, c.name, c.l, nil, c.want)
	}
	var l []api.Packet
	var want []api.Frame
	for i := range 100 {
		l, want = append(l, packet((65500+i)%65536, i, "fe", "a")), append(want, pic(i, "a"))
	}
	watchIs(t, "a hundred", l, want, api.OK)
	watchIs(t, "one more", append(l, good), nil, api.ErrMany)
}

// wantOneStream: numbers go on by one, from 1, and times never go back.
func wantOneStream(t *testing.T, l []api.Packet) {
	t.Helper()
	time := 0
	for i, p := range l {
		if p.Seq != (i+1)%65536 || p.Time < time || wire.Check(p) != api.OK {
			t.Fatalf("packet %d is %+v, behind time %d", i+1, p, time)
		}
		time = p.Time
	}
}

// wantWhole: each picture that is seen is one that was fed, from its first packet to its last; what was sent is pictures alone.
func wantWhole(t *testing.T, s *source, l []api.Packet) {
	t.Helper()
	parts := 0
	frames, e := desk.Watch(l)
	if e != api.OK {
		t.Fatalf("Watch of %+v is %d", l, e)
	}
	for _, f := range frames {
		first := s.fed[f.Parts[0]]
		for i, part := range f.Parts {
			p, known := s.fed[part]
			if !known || p.Seq != (first.Seq+i)%65536 || p.Time != first.Time || p.First != (i == 0) || p.End != (i == len(f.Parts)-1) {
				t.Fatalf("%+v is seen, and was not fed so: %+v", f, p)
			}
		}
		if f.Key != first.Key {
			t.Fatalf("%+v is seen of %+v", f, first)
		}
		parts += len(f.Parts)
	}
	if parts != len(l) {
		t.Fatalf("%d packets of %d are seen", parts, len(l))
	}
}

// TestL3LongScripts: each ActSend begins with a whole picture, or goes on with what came ahead of it.
func TestL3LongScripts(t *testing.T) {
	var d drawn
	sent := 0
	for round := range 100 {
		s := source{drawn: drawn(d.below(1000000)), n: 65400 + d.below(200), steady: round%2 == 0}
		var now answer
		var l []api.Packet
		begins := true
		for range 400 {
			a := s.act()
			got := do(now.t, now.v, a)
			if got.e != api.OK {
				continue
			}
			now = got
			wantWhole(t, &s, got.l)
			if a.Kind == api.ActLive || a.Kind == api.ActSeek {
				begins = true
			}
			if len(got.l) > 0 {
				if begins && !got.l[0].Key {
					t.Fatalf("what was just set begins with %+v", got.l[0])
				}
				begins = false
			}
			l = append(l, got.l...)
		}
		wantOneStream(t, l)
		sent += len(l)
		if now.v.Out.Last != len(l) {
			t.Fatalf("%d packets were sent, the viewer is %+v", len(l), now.v)
		}
	}
	if sent < 10000 {
		t.Errorf("only %d packets were sent", sent)
	}
}

func TestL3Run(t *testing.T) {
	var d drawn
	for round := range 300 {
		s := source{drawn: drawn(d.below(1000000)), n: d.below(65536), steady: round%2 == 0}
		var script []api.Act
		for range 60 {
			script = append(script, s.act())
		}
		got := run(script)
		wantOneStream(t, got.l)
		if len(got.l) <= 100 {
			wantWhole(t, &s, got.l)
		}
		if got.v.Out.Last != len(got.l) {
			t.Fatalf("%d packets were sent, the viewer is %+v", len(got.l), got.v)
		}
	}
}

// TestP1WhateverItIsHanded: no call panics, and with an error nothing else is told.
func TestP1WhateverItIsHanded(t *testing.T) {
	var d drawn
	odd := []int{math.MinInt, -1000001, -1, 0, 1, 2, 3, 4, 5, 6, 7, 20, 100006, 1000000, 1000001, 1000000001, math.MaxInt}
	number := func() int { return odd[d.below(len(odd))] }
	for range 50000 {
		v := viewer(d.below(5), number(), number(), api.Out{Last: number(), Time: number(), Shift: number()})
		a := api.Act{Kind: d.below(7), N: number(), Text: []string{"", "x", "\x87\x11\x74\x00\x00\x00\x05\x01a"}[d.below(3)]}
		x := tracks()[d.below(len(tracks()))].is
		if got := do(x, v, a); got.e != api.OK && told(got) != told(answer{e: got.e}) {
			t.Fatalf("Do of %+v by %+v is %+v", a, v, got)
		}
		l := []api.Packet{packet(number(), number(), "fe", "a"), packet(number(), number(), "e", "b"), packet(number(), number(), "fek", a.Text)}
		if got, e := desk.Watch(l); e != api.OK && len(got) != 0 {
			t.Fatalf("Watch of %+v is %+v %d", l, got, e)
		}
		if got := run([]api.Act{a, {Kind: number(), N: number()}, live, send(number())}); got.e != api.OK || len(got.acted) != 4 {
			t.Fatalf("Run is %+v", got)
		}
	}
}

// span of memory: that of a list, its spare room too, or of a text.
type span struct{ from, to uintptr }

// spansOf all that a value reaches, with what is in spare room.
func spansOf(v reflect.Value) []span {
	var all []span
	add := func(from uintptr, size int) {
		if size > 0 {
			all = append(all, span{from, from + uintptr(size)})
		}
	}
	switch v.Kind() {
	case reflect.String:
		add(uintptr(unsafe.Pointer(unsafe.StringData(v.String()))), v.Len())
	case reflect.Slice:
		add(v.Pointer(), v.Cap()*int(v.Type().Elem().Size()))
		for i := range v.Cap() {
			all = append(all, spansOf(v.Slice(0, v.Cap()).Index(i))...)
		}
	case reflect.Struct:
		for i := range v.NumField() {
			all = append(all, spansOf(v.Field(i))...)
		}
	}
	return all
}

// wantApart: no two lists or texts of an answer share memory, nor any with what was handed in.
func wantApart(t *testing.T, name string, answer, handed any, least int) {
	t.Helper()
	all := spansOf(reflect.ValueOf(answer))
	if len(all) < least {
		t.Fatalf("%s: only %d lists and texts in %+v", name, len(all), answer)
	}
	meets := func(a span) func(span) bool {
		return func(b span) bool { return a.from < b.to && b.from < a.to }
	}
	for i, a := range all {
		if slices.ContainsFunc(spansOf(reflect.ValueOf(handed)), meets(a)) {
			t.Errorf("%s: the answer shares memory with what was handed in", name)
		}
		if slices.ContainsFunc(all[:i], meets(a)) {
			t.Errorf("%s: two lists of the answer share memory", name)
		}
	}
}

// rightActs: some of each kind, that have no error in the sample.
func rightActs() map[string]api.Act {
	return map[string]api.Act{
		"late": feed(packet(4460, 5, "fe", "text")), "waits": feed(packet(4473, 5, "fe", "text")), "open": feed(packet(4468, 5, "f", "text")), "stored": feed(packet(4468, 5, "fek", "text")),
		"live": live, "pause": pause, "seek": seek(15), "send": send(99), "send nothing": send(0),
	}
}

// spacious: the sample, with room behind its lists of slots and groups, and of frames of the open one.
func spacious() api.Track {
	x := sample()
	x.Buffer.Held = append(x.Buffer.Held, at(70098, 9, "fek", "spare"))[:2]
	x.Builder.Open = append(x.Builder.Open, at(70099, 9, "", "spare"))[:1]
	x.Store.Groups = append(x.Store.Groups, of(key(9, "spare")))[:2]
	x.Store.Open.Frames = append(x.Store.Open.Frames, pic(99, "spare"))[:2]
	x.Store.Open.Frames[0].Parts = []string{"ee", "spare"}[:1]
	return x
}

// wholeOf a track: all that its lists have, with what is in spare room.
func wholeOf(x api.Track) string {
	s, frames := x.Store, x.Store.Open.Frames
	return told([]any{x, x.Buffer.Held[:cap(x.Buffer.Held)], x.Builder.Open[:cap(x.Builder.Open)], s.Groups[:cap(s.Groups)], frames[:cap(frames)], frames[0].Parts[:2]})
}

func TestP2WhatIsHandedInIsOnlyRead(t *testing.T) {
	for name, a := range rightActs() {
		x := spacious()
		if got := do(x, viewer(api.Replay, 3, 0, api.Out{}), a); got.e != api.OK {
			t.Fatalf("%s: Do is %+v", name, got)
		}
		if wholeOf(x) != wholeOf(spacious()) {
			t.Errorf("%s: what was handed in is\n%s, was\n%s", name, wholeOf(x), wholeOf(spacious()))
		}
	}
	script := []api.Act{feed(packet(5, 9, "fek", "a")), live, send(5), {Kind: 9}}
	was := slices.Clone(script)
	desk.Run(script[:3])
	packets := []api.Packet{packet(5, 9, "f", "a"), packet(6, 9, "e", "b"), packet(7, 9, "f", "spare")}
	were := slices.Clone(packets)
	desk.Watch(packets[:2])
	if !slices.Equal(script, was) || !slices.Equal(packets, were) {
		t.Errorf("what was handed in is %+v, %+v", script, packets)
	}
}

func TestP2AnswersAreNewMemory(t *testing.T) {
	for name, a := range rightActs() {
		x := spacious()
		got := do(x, viewer(api.Replay, 3, 0, api.Out{}), a)
		wantApart(t, name, got, struct {
			t api.Track
			a api.Act
		}{x, a}, 20)
	}
}

func TestP2RunAndWatchAnswerNewMemory(t *testing.T) {
	script := []api.Act{feed(packet(5, 9, "fek", "text")), live, send(5), feed(packet(6, 9, "fe", "more")), send(5), seek(5), send(9), feed(packet(8, 9, "f", "held"))}
	got := run(script)
	if len(got.l) != 4 || len(got.t.Buffer.Held) != 1 {
		t.Fatalf("Run is %+v", got)
	}
	wantApart(t, "Run", got, script, 10)
	packets := []api.Packet{packet(5, 9, "f", "aa"), packet(6, 9, "e", "bb"), packet(7, 9, "fe", "cc")}
	seen, _ := desk.Watch(packets)
	wantApart(t, "Watch", seen, packets, 6)
}

func TestP3AnswersAreTheSameAgain(t *testing.T) {
	first := map[string]string{}
	same := func(name, got string) {
		if first[name] == "" {
			first[name] = got
		}
		if got != first[name] {
			t.Errorf("%s is %s, was %s", name, got, first[name])
		}
	}
	var script []api.Act
	for range 3 {
		for name, a := range rightActs() {
			same(name, told(do(sample(), viewer(api.Replay, 3, 0, api.Out{}), a)))
			same("a wrong one", told(do(sample(), api.Viewer{}, pause)))
		}
		script = []api.Act{feed(packet(5, 9, "fek", "a")), live, send(5), pause}
		same("Run", told(run(script)))
		frames, e := desk.Watch([]api.Packet{packet(5, 9, "f", "a"), packet(6, 9, "e", "b")})
		same("Watch", told(frames)+told(e))
	}
}
