package track_test

import (
	"cmp"
	"fmt"
	"math"
	"reflect"
	"slices"
	"strconv"
	"strings"
	"testing"
	"unsafe"

	"switchback/api"
	"switchback/track"
)

// bytesOf a packet, as chapter 1 says.
func bytesOf(p api.Packet) string {
	head := 128
	for i, set := range []bool{p.First, p.End, p.Key} {
		if set {
			head += 1 << i
		}
	}
	return string([]byte{byte(head), byte(p.Seq >> 8), byte(p.Seq), byte(p.Time >> 24), byte(p.Time >> 16), byte(p.Time >> 8), byte(p.Time), byte(len(p.Text))}) + p.Text
}

// packet: how has f, e and k of those that are First, End and Key.
func packet(seq, time int, how, text string) api.Packet {
	return api.Packet{Seq: seq, Time: time, First: strings.Contains(how, "f"), End: strings.Contains(how, "e"), Key: strings.Contains(how, "k"), Text: text}
}

// at a number.
func at(n, time int, how, text string) api.Slot {
	return api.Slot{N: n, P: packet(n%65536, time, how, text)}
}

func key(time int, parts ...string) api.Frame { return api.Frame{Time: time, Key: true, Parts: parts} }
func pic(time int, parts ...string) api.Frame { return api.Frame{Time: time, Parts: parts} }

func of(l ...api.Frame) api.Group { return api.Group{Frames: l} }

// with groups, from a number on, and an open one.
func with(first int, open api.Group, l ...api.Group) api.Store {
	return api.Store{First: first, Groups: l, Open: open}
}

// sample: 70000 to 70003 came, 70006 and 70007 wait.
func sample() api.Track {
	return api.Track{
		Last:    70007,
		Buffer:  api.Buffer{Next: 70004, Held: []api.Slot{at(70006, 22, "fek", "held1"), at(70007, 23, "fe", "held2")}},
		Builder: api.Builder{Open: []api.Slot{at(70002, 21, "f", "open1"), at(70003, 21, "", "open2")}},
		Store:   with(7, of(key(20, "frame4"), pic(20, "frame5")), of(key(10, "frame1"), pic(11, "frame2", "more2")), of(key(15, "frame3"))),
	}
}

// fullStore: the next group that is closed lets the first one go, whose number is the greatest.
func fullStore() api.Store {
	g := of(key(5, "a"))
	return with(api.MaxGroup, g, g, g, g, g, g)
}

// part of what is handed in, and the error that its own chapter tells.
type part[T any] struct {
	is   T
	want api.Errno
}

func lasts() []part[int] {
	return []part[int]{{0, 0}, {api.MinN, 0}, {70000, 0}, {api.MaxN, 0},
		{math.MinInt, 3}, {-1, 3}, {1, 3}, {api.MinN - 1, 3}, {api.MaxN + 1, 3}, {math.MaxInt, 3}}
}

func buffers() []part[api.Buffer] {
	return []part[api.Buffer]{
		{api.Buffer{}, 0},
		{api.Buffer{Next: api.MinN, Held: []api.Slot{}}, 0},
		{api.Buffer{Next: api.MaxN + 1}, 0},
		{sample().Buffer, 0},
		{api.Buffer{Next: 1}, api.ErrRange},
		{api.Buffer{Next: api.MaxN + 2}, api.ErrRange},
		{api.Buffer{Next: 70000, Held: make([]api.Slot, 5)}, api.ErrMany},
		{api.Buffer{Next: 70000, Held: []api.Slot{at(70001, 1, "", "123456789")}}, api.ErrMany},
		{api.Buffer{Next: 70000, Held: []api.Slot{at(70000, 1, "", "")}}, api.ErrState},
		{api.Buffer{Held: []api.Slot{at(70000, 1, "", "")}}, api.ErrState},
	}
}

func builders() []part[api.Builder] {
	open := func(l ...api.Slot) api.Builder { return api.Builder{Open: l} }
	return []part[api.Builder]{
		{open(), 0},
		{open([]api.Slot{}...), 0},
		{sample().Builder, 0},
		{open(at(70000, 5, "fk", "a"), at(70001, 5, "", "b"), at(70002, 5, "", "c")), 0},
		{open(make([]api.Slot, 4)...), api.ErrMany},
		{open(at(70000, 5, "f", "123456789")), api.ErrMany},
		{open(make([]api.Slot, 1)...), api.ErrRange},
		{open(at(70000, -1, "f", "a")), api.ErrRange},
		{open(at(70000, 5, "", "a")), api.ErrState},
		{open(at(70000, 5, "fe", "a")), api.ErrState},
		{open(at(70000, 5, "f", "a"), at(70002, 5, "", "b")), api.ErrState},
		{open(at(70000, 5, "f", "a"), at(70001, 6, "", "b")), api.ErrState},
	}
}

func stores() []part[api.Store] {
	return []part[api.Store]{
		{api.Store{}, 0},
		{sample().Store, 0},
		{fullStore(), 0},
		{with(-1, of()), api.ErrRange},
		{with(api.MaxGroup+1, of()), api.ErrRange},
		{with(0, of(), make([]api.Group, 6)...), api.ErrMany},
		{with(0, of(), of()), api.ErrNone},
		{with(0, of(), of(pic(1, "a"))), api.ErrState},
		{with(0, of(pic(1, "a"))), api.ErrState},
		{with(0, of(key(1))), api.ErrNone},
	}
}

// eachTrack of all those parts, and the error that K1 asks for.
func eachTrack(do func(t api.Track, want api.Errno)) {
	for _, last := range lasts() {
		for _, b := range buffers() {
			for _, m := range builders() {
				for _, s := range stores() {
					state := api.OK
					if (last.is == 0) != (b.is.Next == 0) {
						state = api.ErrState
					}
					wrong := cmp.Or(last.want, b.want, m.want, s.want, state)
					do(api.Track{Last: last.is, Buffer: b.is, Builder: m.is, Store: s.is}, wrong)
				}
			}
		}
	}
}

func isZero(t api.Track) bool { return told(t) == told(api.Track{}) }

// told of a track: a list is told the same way if it is nil and if it is empty.
func told(t api.Track) string { return fmt.Sprintf("%+v", t) }

func TestK1Check(t *testing.T) {
	right := 0
	eachTrack(func(x api.Track, want api.Errno) {
		if e := track.Check(x); e != want {
			t.Fatalf("Check of %+v is %d, want %d", x, e, want)
		}
		if want == api.OK {
			right++
		}
	})
	if right != (3*3+1)*4*3 {
		t.Errorf("%d tracks are right", right)
	}
}

func TestK1LastAndNextBelongTogether(t *testing.T) {
	for _, c := range []struct {
		last, next int
		want       api.Errno
	}{
		{0, 0, api.OK},
		{70000, 70001, api.OK},
		{70000, 66000, api.OK},
		{70000, 80000, api.OK},
		{api.MaxN, api.MaxN + 1, api.OK},
		{70000, 0, api.ErrState},
		{0, 70000, api.ErrState},
		{api.MinN, 0, api.ErrState},
		{0, api.MaxN + 1, api.ErrState},
	} {
		x := api.Track{Last: c.last, Buffer: api.Buffer{Next: c.next}}
		if e := track.Check(x); e != c.want {
			t.Errorf("Check of %+v is %d, want %d", x, e, c.want)
		}
		if _, _, e := track.Drain(x); e != c.want {
			t.Errorf("Drain of %+v is %d, want %d", x, e, c.want)
		}
	}
}

// TestK2WrongTracks: wrong bytes come along, and numbers that can't be found: Check of the track tells ahead of them.
func TestK2WrongTracks(t *testing.T) {
	feeds := []string{"", bytesOf(packet(4464, 5, "fek", "a")), bytesOf(packet(65535, 5, "", "123456789"))}
	eachTrack(func(x api.Track, want api.Errno) {
		if want == api.OK {
			return
		}
		for _, s := range feeds {
			if got, n, e := track.Feed(x, s); e != want || n != 0 || !isZero(got) {
				t.Fatalf("Feed of %+v is %+v %d %d, want nothing and %d", x, got, n, e, want)
			}
		}
		if got, n, e := track.Drain(x); e != want || n != 0 || !isZero(got) {
			t.Fatalf("Drain of %+v is %+v %d %d, want nothing and %d", x, got, n, e, want)
		}
	})
}

// wrongBytes of a packet: some of them have no number, either, where 65536 came last; Decode tells ahead of that.
func wrongBytes() []part[string] {
	right := bytesOf(packet(4464, 5, "fek", "abc"))
	return []part[string]{
		{"", api.ErrForm},
		{"x", api.ErrForm},
		{right[:7], api.ErrForm},
		{right[:len(right)-1], api.ErrForm},
		{right + "d", api.ErrForm},
		{right + right, api.ErrForm},
		{"\x7f" + right[1:], api.ErrForm},
		{"\x88" + right[1:], api.ErrForm},
		{bytesOf(packet(4464, 1000001, "fe", "a")), api.ErrRange},
		{bytesOf(packet(4464, 1<<31, "fe", "a")), api.ErrRange},
		{bytesOf(packet(4464, 5, "f", "123456789")), api.ErrMany},
		{bytesOf(packet(4464, 5, "ke", "a")), api.ErrState},
		{bytesOf(packet(50000, 5, "f", "123456789")), api.ErrMany},
		{bytesOf(packet(50000, 5, "ke", "a")), api.ErrState},
		{bytesOf(packet(50000, 5, "fe", "a")) + "b", api.ErrForm},
	}
}

func TestK2WrongBytes(t *testing.T) {
	for _, c := range wrongBytes() {
		for _, x := range []api.Track{{}, sample(), {Last: api.MinN, Buffer: api.Buffer{Next: api.MinN + 1}}, {Store: fullStore()}} {
			if got, n, e := track.Feed(x, c.is); e != c.want || n != 0 || !isZero(got) {
				t.Errorf("Feed of %x is %+v %d %d, want nothing and %d", c.is, got, n, e, c.want)
			}
		}
	}
}

func TestK2Numbers(t *testing.T) {
	for _, c := range []struct {
		name      string
		last, seq int
		want      int // the number, or 0, if there is none
	}{
		{"the first one", 0, 0, api.MinN},
		{"the first one, far", 0, 65535, 131071},
		{"the first one, between", 0, 40000, 105536},
		{"the next one", 70000, 4465, 70001},
		{"round", 131071, 0, 131072},
		{"back over the round", 131072, 65535, 131071},
		{"farthest on", 131072, 32768, 163840},
		{"farthest back", 131072, 32769, 98305},
		{"below MinN", api.MinN, 65535, 0},
		{"far below MinN", 70000, 40000, 0},
		{"MinN again", api.MinN, 0, api.MinN},
		{"on to MaxN", api.MaxN - 5, api.MaxN % 65536, api.MaxN},
		{"above MaxN", api.MaxN, (api.MaxN + 1) % 65536, 0},
		{"far above MaxN", api.MaxN - 5, (api.MaxN + 32763) % 65536, 0},
	} {
		x := api.Track{}
		if c.last != 0 {
			x = api.Track{Last: c.last, Buffer: api.Buffer{Next: api.MinN}}
		}
		got, n, e := track.Feed(x, bytesOf(packet(c.seq, 5, "", "a")))
		if c.want == 0 {
			if e != api.ErrRange || n != 0 || !isZero(got) {
				t.Errorf("%s: Feed is %+v %d %d, want nothing and ErrRange", c.name, got, n, e)
			}
			continue
		}
		// It went out, if it is the first one, or MinN, which is Next; else it waits.
		want := api.Track{Last: max(c.last, c.want), Buffer: api.Buffer{Next: api.MinN, Held: []api.Slot{at(c.want, 5, "", "a")}}}
		if c.last == 0 || c.want == api.MinN {
			want.Buffer = api.Buffer{Next: c.want + 1}
		}
		if e != api.OK || n != 0 || told(got) != told(want) {
			t.Errorf("%s: Feed is %+v %d %d, want %+v", c.name, got, n, e, want)
		}
	}
}

func TestK2FeedOfASample(t *testing.T) {
	begun, newest := sample().Builder.Open, sample().Store.Open.Frames
	// on: 70004 went out, and this is open then, and these groups.
	on := func(builder []api.Slot, open []api.Frame, closed ...api.Group) api.Track {
		x := sample()
		x.Buffer.Next, x.Builder.Open, x.Store.Open.Frames = 70005, builder, open
		x.Store.Groups = append(x.Store.Groups, closed...)
		return x
	}
	far := sample()
	far.Last, far.Buffer.Held = 70009, append(far.Buffer.Held, at(70009, 9, "", "z"))
	for _, c := range []struct {
		name   string
		p      api.Packet
		want   api.Track
		closed int
	}{
		{"late", packet(4463, 5, "fek", "z"), sample(), 0},
		{"held already", packet(4470, 5, "fek", "z"), sample(), 0},
		{"it waits", packet(4473, 9, "", "z"), far, 0},
		{"it goes on with what is open", packet(4468, 21, "", "z"), on(append(begun, at(70004, 21, "", "z")), newest), 0},
		{"it ends what is open", packet(4468, 21, "e", "z"), on(nil, append(newest, pic(21, "open1", "open2", "z"))), 0},
		{"its time is another one", packet(4468, 22, "e", "z"), on(nil, newest), 0},
		{"it is a picture, what was open is lost", packet(4468, 20, "fe", "z"), on(nil, append(newest, pic(20, "z"))), 0},
		{"it is a picture whose time is too early", packet(4468, 19, "fe", "z"), on(nil, newest), 0},
		{"it is a whole picture", packet(4468, 1, "fek", "z"), on(nil, []api.Frame{key(1, "z")}, of(newest...)), 1},
		{"it begins another picture", packet(4468, 9, "fk", "z"), on([]api.Slot{at(70004, 9, "fk", "z")}, newest), 0},
	} {
		if got, n, e := track.Feed(sample(), bytesOf(c.p)); e != api.OK || n != c.closed || told(got) != told(c.want) {
			t.Errorf("%s: Feed is\n%+v %d %d, want\n%+v %d", c.name, got, n, e, c.want, c.closed)
		}
	}
}

// TestK2WhatWaitedGoesOn: nothing is missing any more, so all that waited goes out behind what came.
func TestK2WhatWaitedGoesOn(t *testing.T) {
	x, _, _ := track.Feed(sample(), bytesOf(packet(4469, 9, "", "z")))
	got, n, e := track.Feed(x, bytesOf(packet(4468, 21, "e", "z")))
	want := sample()
	want.Buffer, want.Builder = api.Buffer{Next: 70008}, api.Builder{}
	want.Store.Groups = append(want.Store.Groups, of(append(want.Store.Open.Frames, pic(21, "open1", "open2", "z"))...))
	want.Store.Open = of(key(22, "held1"), pic(23, "held2"))
	if e != api.OK || n != 1 || told(got) != told(want) {
		t.Errorf("Feed of what is missing is\n%+v %d %d, want\n%+v 1", got, n, e, want)
	}
}

// TestK2WhatIsMissingIsGivenUp: when more than MaxHeld wait.
func TestK2WhatIsMissingIsGivenUp(t *testing.T) {
	x := api.Track{}
	for i, n := range []int{70000, 70002, 70004, 70006, 70008} {
		x, _, _ = track.Feed(x, bytesOf(packet(n%65536, 10+i, "fek", strconv.Itoa(n))))
	}
	waiting := api.Track{Last: 70008, Store: with(0, of(key(10, "70000"))), Buffer: api.Buffer{Next: 70001,
		Held: []api.Slot{at(70002, 11, "fek", "70002"), at(70004, 12, "fek", "70004"), at(70006, 13, "fek", "70006"), at(70008, 14, "fek", "70008")}}}
	if told(x) != told(waiting) {
		t.Fatalf("four wait in %+v, want %+v", x, waiting)
	}
	got, n, e := track.Feed(x, bytesOf(packet(70010%65536, 15, "fek", "70010")))
	want := api.Track{Last: 70010, Store: with(0, of(key(11, "70002")), of(key(10, "70000"))),
		Buffer: api.Buffer{Next: 70003, Held: append(waiting.Buffer.Held[1:], at(70010, 15, "fek", "70010"))}}
	if e != api.OK || n != 1 || told(got) != told(want) {
		t.Errorf("Feed of one more is\n%+v %d %d, want\n%+v 1", got, n, e, want)
	}
	got, n, e = track.Drain(x)
	want = api.Track{Last: 70008, Buffer: api.Buffer{Next: 70009}, Store: with(0, of(key(14, "70008")),
		of(key(10, "70000")), of(key(11, "70002")), of(key(12, "70004")), of(key(13, "70006")))}
	if e != api.OK || n != 4 || told(got) != told(want) {
		t.Errorf("Drain is\n%+v %d %d, want\n%+v 4", got, n, e, want)
	}
}

func TestK2Drain(t *testing.T) {
	got, n, e := track.Drain(sample())
	want := sample()
	want.Buffer = api.Buffer{Next: 70008}
	want.Builder = api.Builder{}
	want.Store.Groups = append(want.Store.Groups, want.Store.Open)
	want.Store.Open = of(key(22, "held1"), pic(23, "held2"))
	if e != api.OK || n != 1 || told(got) != told(want) {
		t.Errorf("Drain is\n%+v %d %d, want\n%+v 1", got, n, e, want)
	}
	for _, x := range []api.Track{{}, want, {Last: api.MaxN, Buffer: api.Buffer{Next: api.MaxN + 1}, Builder: sample().Builder, Store: fullStore()}} {
		if got, n, e := track.Drain(x); e != api.OK || n != 0 || told(got) != told(x) {
			t.Errorf("Drain where nothing waits is\n%+v %d %d, want\n%+v 0", got, n, e, x)
		}
	}
}

// TestK2NoRoomInTheStore: a later error than those of the packet: the first group would have a number above MaxGroup.
func TestK2NoRoomInTheStore(t *testing.T) {
	waits := []api.Slot{at(70001, 6, "fek", "b"), at(70002, 7, "fek", "c")}
	x := api.Track{Last: 70002, Buffer: api.Buffer{Next: 70000, Held: waits}, Store: fullStore()}
	y := x
	y.Store.Groups = y.Store.Groups[:4]
	for name, x := range map[string]api.Track{"the first group": x, "the second one": y} {
		if got, n, e := track.Drain(x); e != api.ErrMany || n != 0 || !isZero(got) {
			t.Errorf("%s: Drain is %+v %d %d, want nothing and ErrMany", name, got, n, e)
		}
		if got, n, e := track.Feed(x, bytesOf(packet(4464, 5, "", ""))); e != api.ErrMany || n != 0 || !isZero(got) {
			t.Errorf("%s: Feed is %+v %d %d, want nothing and ErrMany", name, got, n, e)
		}
	}
	y.Buffer.Held = waits[:1]
	for range 2 {
		if got, n, e := track.Drain(y); e != api.OK || n != 1 || got.Store.First != api.MaxGroup || len(got.Store.Groups) != 5 {
			t.Errorf("with room for one: Drain is %+v %d %d", got, n, e)
		}
	}
	if _, n, e := track.Feed(x, bytesOf(packet(4470, 5, "fek", ""))); e != api.OK || n != 0 {
		t.Errorf("Feed of what waits is %d %d, want 0 and OK", n, e)
	}
}

// model of a track: what chapters 2 to 6 say of a packet that comes in, all in one.
type model struct {
	api.Track
	closed int
}

func (m *model) feed(p api.Packet) bool {
	n := p.Seq + 65536
	for m.Last != 0 && n < m.Last-32767 {
		n += 65536
	}
	for m.Last != 0 && n > m.Last+32768 {
		n -= 65536
	}
	if n < api.MinN || n > api.MaxN {
		return false
	}
	m.Last = max(m.Last, n)
	if m.Buffer.Next == 0 {
		m.Buffer.Next = n
	}
	if n < m.Buffer.Next || slices.ContainsFunc(m.Buffer.Held, func(x api.Slot) bool { return x.N == n }) {
		return true
	}
	m.Buffer.Held = append(m.Buffer.Held, api.Slot{N: n, P: p})
	slices.SortFunc(m.Buffer.Held, func(x, y api.Slot) int { return cmp.Compare(x.N, y.N) })
	m.letOut(4)
	return true
}

func (m *model) letOut(most int) {
	for l := m.Buffer.Held; len(l) > 0 && (l[0].N == m.Buffer.Next || len(l) > most); l = m.Buffer.Held {
		m.Buffer.Next, m.Buffer.Held = l[0].N+1, slices.Clone(l[1:])
		m.takePart(l[0])
	}
}

func (m *model) takePart(x api.Slot) {
	l := m.Builder.Open
	switch {
	case x.P.First:
		l = []api.Slot{x}
	case len(l) > 0 && x.N == l[len(l)-1].N+1 && x.P.Time == l[0].P.Time:
		l = append(slices.Clone(l), x)
	default:
		l = nil
	}
	if len(l) > 0 && x.P.End {
		f := api.Frame{Time: l[0].P.Time, Key: l[0].P.Key}
		for _, y := range l {
			f.Parts = append(f.Parts, y.P.Text)
		}
		m.takePicture(f)
		l = nil
	}
	if len(l) == 4 {
		l = nil
	}
	m.Builder.Open = l
}

func (m *model) takePicture(f api.Frame) {
	open := m.Store.Open.Frames
	switch {
	case f.Key && len(open) > 0:
		m.Store.Groups = append(slices.Clone(m.Store.Groups), m.Store.Open)
		m.closed++
		m.Store.Open = of(f)
	case f.Key:
		m.Store.Open = of(f)
	case len(open) > 0 && len(open) < 6 && open[len(open)-1].Time <= f.Time:
		m.Store.Open = of(append(slices.Clone(open), f)...)
	}
	for len(m.Store.Groups) > 5 || len(m.Store.Groups) > 1 && sizeOf(m.Store.Groups) > 100 {
		m.Store.Groups = m.Store.Groups[1:]
		m.Store.First++
	}
}

func sizeOf(l []api.Group) int {
	size := 0
	for _, g := range l {
		for _, f := range g.Frames {
			size += len(strings.Join(f.Parts, ""))
		}
	}
	return size
}

// drawn: numbers below n, the same each time.
type drawn uint64

func (d *drawn) below(n int) int {
	*d = *d*6364136223846793005 + 1442695040888963407
	return int(uint64(*d)>>33) % n
}

// pictures of a stream, as packets with their numbers, from one on; most has the greatest parts of a picture.
// What a packet says tells its number.
func (d *drawn) pictures(from, count, most int) []api.Slot {
	var l []api.Slot
	time, n := d.below(50), from
	for range count {
		time = max(0, time+d.below(12)-1)
		parts, whole := 1+d.below(most), d.below(3) == 0
		for i := range parts {
			x := api.Slot{N: n, P: api.Packet{Seq: n % 65536, Time: time, First: i == 0, End: i == parts-1, Key: whole && i == 0, Text: textOf(n)}}
			l = append(l, x)
			n++
		}
	}
	return l
}

func textOf(n int) string { return strconv.FormatInt(int64(n), 36) }

// upset a stream: each packet comes up to so much later, or is lost, or comes twice.
func (d *drawn) upset(l []api.Slot, late, lost, twice int) []api.Slot {
	type due struct{ turn, x int }
	var all []due
	for i := range l {
		for more := true; more && d.below(100) >= lost; more = d.below(100) < twice {
			all = append(all, due{i + d.below(late+1), i})
		}
	}
	slices.SortStableFunc(all, func(a, b due) int { return cmp.Compare(a.turn, b.turn) })
	var came []api.Slot
	for _, a := range all {
		came = append(came, l[a.x])
	}
	return came
}

func TestK2LongStreams(t *testing.T) {
	var d drawn
	for range 300 {
		from := []int{api.MinN, 70000, 131000, 65536 * 2, 98304}[d.below(5)]
		came := d.upset(d.pictures(from, 60, 5), d.below(12), d.below(30), d.below(30))
		var x api.Track
		var m model
		for i, s := range came {
			got, n, e := track.Feed(x, bytesOf(s.P))
			m.closed = 0
			if found := m.feed(s.P); !found {
				if e != api.ErrRange || n != 0 || !isZero(got) {
					t.Fatalf("Feed of %+v in %+v is %+v %d %d, want nothing and ErrRange", s, x, got, n, e)
				}
				continue
			}
			if e != api.OK || n != m.closed || told(got) != told(m.Track) || track.Check(got) != api.OK {
				t.Fatalf("Feed of %+v in\n%+v is\n%+v %d %d, want\n%+v %d", s, x, got, n, e, m.Track, m.closed)
			}
			x = got
			if i%7 == 0 {
				drained := model{Track: m.Track}
				drained.letOut(0)
				if got, n, e := track.Drain(x); e != api.OK || n != drained.closed || told(got) != told(drained.Track) || track.Check(got) != api.OK {
					t.Fatalf("Drain of\n%+v is\n%+v %d %d, want\n%+v %d", x, got, n, e, drained.Track, drained.closed)
				}
			}
		}
	}
}

// seen: all pictures that ever were stored, in order.
type seen struct {
	groups int // those of lower numbers are known
	frames []api.Frame
}

// look at a store behind each packet; it lets no group go ahead of that.
func (s *seen) look(t *testing.T, x api.Track) {
	if x.Store.First > s.groups {
		t.Fatalf("group %d went unseen", s.groups)
	}
	for _, g := range x.Store.Groups[s.groups-x.Store.First:] {
		s.frames = append(s.frames, g.Frames...)
		s.groups++
	}
}

// numberOf a text.
func numberOf(t *testing.T, text string) int {
	n, err := strconv.ParseInt(text, 36, 64)
	if err != nil {
		t.Fatal(err)
	}
	return int(n)
}

func TestK3WhatIsStoredIsWhatWasFed(t *testing.T) {
	var d drawn
	for range 200 {
		from := api.MinN + d.below(90000)
		l := d.pictures(from, 50, 4)
		came := d.upset(l, d.below(12), d.below(20), d.below(20))
		var x api.Track
		var s seen
		for _, c := range came {
			if got, _, e := track.Feed(x, bytesOf(c.P)); e == api.OK {
				x = got
			}
			s.look(t, x)
		}
		x, _, _ = track.Drain(x)
		s.look(t, x)
		// Numbers are asked of the texts, because those of a track may be some rounds lower than those of the stream.
		last := 0
		for _, f := range append(s.frames, x.Store.Open.Frames...) {
			first := numberOf(t, f.Parts[0])
			if first <= last {
				t.Fatalf("%d is stored behind %d", first, last)
			}
			for i, part := range f.Parts {
				last = numberOf(t, part)
				p := l[last-from].P
				fed := slices.ContainsFunc(came, func(c api.Slot) bool { return c.P.Text == part })
				if !fed || last != first+i || p.Time != f.Time || p.First != (i == 0) || p.End != (i == len(f.Parts)-1) || i == 0 && p.Key != f.Key {
					t.Fatalf("%+v is stored, and was not fed so: %+v", f, p)
				}
			}
		}
	}
}

// TestK3AllIsStored: where nothing is lost, and nothing comes more than four behind its turn, each picture is there that can be in a group.
func TestK3AllIsStored(t *testing.T) {
	var d drawn
	for range 100 {
		var l []api.Slot
		for i := range 80 {
			how := []string{"fek", "fe", "fe"}[i%3]
			l = append(l, at(65500+api.MinN+i, i/2, how, textOf(i)))
		}
		came := append(slices.Clone(l[:1]), d.upset(l[1:], 4, 0, 30)...)
		var x api.Track
		var s seen
		for _, c := range came {
			x, _, _ = track.Feed(x, bytesOf(c.P))
			s.look(t, x)
		}
		all := append(s.frames, x.Store.Open.Frames...)
		if len(all) != len(l) || x.Last != l[79].N || x.Buffer.Next != x.Last+1 || x.Store.First+len(x.Store.Groups) != 26 {
			t.Fatalf("%d pictures of %d are stored: %+v", len(all), len(l), x)
		}
		for i, f := range all {
			if p := l[i].P; f.Time != p.Time || f.Key != p.Key || !slices.Equal(f.Parts, []string{p.Text}) {
				t.Fatalf("at %d %+v is stored, want %+v", i, f, p)
			}
		}
	}
}

// TestP1WhateverItIsHanded: no call panics, and with an error nothing else is told.
func TestP1WhateverItIsHanded(t *testing.T) {
	var d drawn
	odd := []int{math.MinInt, -1, 0, 1, 65535, 65536, 70000, 1000000000, 1000000001, math.MaxInt}
	slots := func() []api.Slot {
		l := make([]api.Slot, d.below(6))
		for i := range l {
			l[i] = at(70000+d.below(9), d.below(3), []string{"", "f", "e", "fk", "k"}[d.below(5)], "text")
			if d.below(4) == 0 {
				l[i].N = odd[d.below(len(odd))]
			}
		}
		return l
	}
	for range 20000 {
		x := api.Track{Last: odd[d.below(len(odd))], Buffer: api.Buffer{Next: odd[d.below(len(odd))], Held: slots()}, Builder: api.Builder{Open: slots()}}
		if d.below(2) == 0 {
			x.Buffer, x.Builder = api.Buffer{Next: 70000}, api.Builder{}
		}
		x.Store = stores()[d.below(len(stores()))].is
		s := bytesOf(packet(odd[d.below(len(odd))], d.below(9), []string{"", "fe", "fek"}[d.below(3)], "abc"))
		check := track.Check(x)
		fed, n, feed := track.Feed(x, s[:len(s)-d.below(2)])
		drained, m, drain := track.Drain(x)
		if feed != api.OK && (n != 0 || !isZero(fed)) || drain != api.OK && (m != 0 || !isZero(drained)) || check != api.OK && (feed != check || drain != check) {
			t.Fatalf("%+v: Check is %d, Feed %+v %d %d, Drain %+v %d %d", x, check, fed, n, feed, drained, m, drain)
		}
	}
}

// span of memory: that of a list, its spare room too, or of a text.
type span struct{ from, to uintptr }

// spansOf all that a value reaches, with what is in spare room.
func spansOf(v reflect.Value) []span {
	var all []span
	add := func(from uintptr, size int) {
		if size > 0 {
			all = append(all, span{from, from + uintptr(size)})
		}
	}
	switch v.Kind() {
	case reflect.String:
		add(uintptr(unsafe.Pointer(unsafe.StringData(v.String()))), v.Len())
	case reflect.Slice:
		add(v.Pointer(), v.Cap()*int(v.Type().Elem().Size()))
		for i := range v.Cap() {
			all = append(all, spansOf(v.Slice(0, v.Cap()).Index(i))...)
		}
	case reflect.Struct:
		for i := range v.NumField() {
			all = append(all, spansOf(v.Field(i))...)
		}
	}
	return all
}

func meet(a, b span) bool { return a.from < b.to && b.from < a.to }

// spacious: a track with room behind each list, and texts in memory of their own.
func spacious() api.Track {
	x := sample()
	own := func(s string) string { return string([]byte(s)) }
	room := func(l []api.Slot) []api.Slot {
		l = append(slices.Clone(l), at(70099, 9, "fek", "spare"))
		for i := range l {
			l[i].P.Text = own(l[i].P.Text)
		}
		return l[:len(l)-1]
	}
	roomy := func(g api.Group) api.Group {
		l := append(slices.Clone(g.Frames), key(9, "spare"))
		for i := range l {
			parts := append(slices.Clone(l[i].Parts), "spare")
			for j := range parts {
				parts[j] = own(parts[j])
			}
			l[i].Parts = parts[:len(parts)-1]
		}
		return of(l[:len(l)-1]...)
	}
	x.Buffer.Held, x.Builder.Open = room(x.Buffer.Held), room(x.Builder.Open)
	groups := append(slices.Clone(x.Store.Groups), of(key(9, "spare")))
	for i := range groups {
		groups[i] = roomy(groups[i])
	}
	x.Store.Groups, x.Store.Open = groups[:2], roomy(x.Store.Open)
	return x
}

// wholeOf a value: all that it reaches, with what is in spare room.
func wholeOf(v reflect.Value) string {
	switch v.Kind() {
	case reflect.Slice:
		s := "["
		for i := range v.Cap() {
			s += wholeOf(v.Slice(0, v.Cap()).Index(i)) + " "
		}
		return s + "]"
	case reflect.Struct:
		s := "{"
		for i := range v.NumField() {
			s += wholeOf(v.Field(i)) + " "
		}
		return s + "}"
	}
	return fmt.Sprint(v.Interface())
}

// changes: a call of each kind: nothing goes out, slots, frames of which none closes a group, and some that do.
func changes() map[string]func(api.Track) (api.Track, int, api.Errno) {
	all := map[string]func(api.Track) (api.Track, int, api.Errno){"Drain": track.Drain}
	for name, p := range map[string]api.Packet{
		"late": packet(4463, 5, "fek", "text"), "held already": packet(4470, 5, "fek", "text"), "waits": packet(4473, 5, "fek", "text"),
		"open": packet(4468, 5, "f", "text"), "ends": packet(4468, 21, "e", "text"), "closes": packet(4468, 21, "fek", "text"),
	} {
		all[name] = func(x api.Track) (api.Track, int, api.Errno) { return track.Feed(x, bytesOf(p)) }
	}
	return all
}

func TestP2WhatIsHandedInIsOnlyRead(t *testing.T) {
	want := wholeOf(reflect.ValueOf(spacious()))
	for name, change := range changes() {
		x := spacious()
		if _, _, e := change(x); e != api.OK || track.Check(x) != api.OK {
			t.Fatalf("%s: %d", name, e)
		}
		if got := wholeOf(reflect.ValueOf(x)); got != want {
			t.Errorf("%s: what was handed in is\n%s, was\n%s", name, got, want)
		}
	}
}

func TestP2AnswersAreNewMemory(t *testing.T) {
	for name, change := range changes() {
		x := spacious()
		got, _, e := change(x)
		if e != api.OK {
			t.Fatalf("%s: %d", name, e)
		}
		answer := spansOf(reflect.ValueOf(got))
		if len(answer) < 10 {
			t.Fatalf("%s: only %d lists and texts in %+v", name, len(answer), got)
		}
		for i, a := range answer {
			for _, b := range spansOf(reflect.ValueOf(x)) {
				if meet(a, b) {
					t.Errorf("%s: the answer shares memory with what was handed in", name)
				}
			}
			for _, b := range answer[:i] {
				if meet(a, b) {
					t.Errorf("%s: two lists of the answer share memory", name)
				}
			}
		}
	}
}

func TestP2TheTextIsNewMemory(t *testing.T) {
	s := bytesOf(packet(4468, 5, "f", "text"))
	x, _, _ := track.Feed(sample(), s)
	text := x.Builder.Open[0].P.Text
	handed := spansOf(reflect.ValueOf(s))[0]
	if text != "text" || meet(spansOf(reflect.ValueOf(text))[0], handed) {
		t.Errorf("%q must be there, and of its own", text)
	}
}

func TestP3AnswersAreTheSameAgain(t *testing.T) {
	first := map[string]string{}
	for range 3 {
		for name, change := range changes() {
			x, n, e := change(sample())
			got := fmt.Sprintf("%+v %d %d", x, n, e)
			if first[name] == "" {
				first[name] = got
			}
			if got != first[name] {
				t.Errorf("%s is %s, was %s", name, got, first[name])
			}
			track.Feed(sample(), "wrong")
			track.Drain(api.Track{Last: 1})
		}
	}
}
