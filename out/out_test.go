package out_test

import (
	"math"
	"reflect"
	"slices"
	"strings"
	"testing"
	"unsafe"

	"switchback/api"
	"switchback/frame"
	"switchback/out"
)

// key is a whole picture, pic is not.
func key(time int, parts ...string) api.Frame { return api.Frame{Time: time, Key: true, Parts: parts} }
func pic(time int, parts ...string) api.Frame { return api.Frame{Time: time, Parts: parts} }

func rightOuts() []api.Out {
	var all []api.Out
	for _, last := range []int{0, 1, 65534, 65535, 65536, api.MaxN - 1, api.MaxN} {
		for _, time := range []int{0, 1, api.MaxTime - 1, api.MaxTime} {
			for _, shift := range []int{-api.MaxTime, -1, 0, 1, api.MaxTime} {
				all = append(all, api.Out{Last: last, Time: time, Shift: shift})
			}
		}
	}
	return all
}

func wrongOuts() []api.Out {
	var all []api.Out
	for _, n := range []int{math.MinInt, -1, api.MaxN + 1, math.MaxInt} {
		all = append(all, api.Out{Last: n}, api.Out{Last: n, Time: 5, Shift: -5})
	}
	for _, n := range []int{math.MinInt, -1, api.MaxTime + 1, math.MaxInt} {
		all = append(all, api.Out{Time: n}, api.Out{Last: 5, Time: n, Shift: 7})
	}
	for _, n := range []int{math.MinInt, -api.MaxTime - 1, api.MaxTime + 1, math.MaxInt} {
		all = append(all, api.Out{Shift: n}, api.Out{Last: 5, Time: 7, Shift: n})
	}
	return all
}

// wrongFrames: one of each error that Check of a frame tells.
func wrongFrames() map[api.Errno][]api.Frame {
	return map[api.Errno][]api.Frame{
		api.ErrRange: {key(-1, "a"), key(api.MaxTime+1, "a"), key(math.MinInt, "a"), key(math.MaxInt, "a"), pic(-1)},
		api.ErrNone:  {{}, key(5), pic(api.MaxTime, []string{}...)},
		api.ErrMany:  {key(5, "a", "b", "c", "d", "e"), pic(5, "123456789"), key(5, "a", "b", "c", "123456789"), pic(5, make([]string, 10000)...)},
	}
}

// answer of Send.
type answer struct {
	o api.Out
	l []api.Packet
	e api.Errno
}

func send(o api.Out, f api.Frame, turn bool) answer {
	p, l, e := out.Send(o, f, turn)
	return answer{p, l, e}
}

func (a answer) same(b answer) bool { return a.o == b.o && slices.Equal(a.l, b.l) && a.e == b.e }

func wantSend(t *testing.T, o api.Out, f api.Frame, turn bool, want answer) {
	t.Helper()
	if got := send(o, f, turn); !got.same(want) {
		t.Fatalf("Send of %+v to %+v (turn %v) is %+v, want %+v", f, o, turn, got, want)
	}
}

func TestJ1RightStreams(t *testing.T) {
	for _, o := range rightOuts() {
		if e := out.Check(o); e != api.OK {
			t.Errorf("Check of %+v is %d, want OK", o, e)
		}
	}
}

// TestJ1WrongStreams: wrong frames come along: Check of the stream tells ahead of them.
func TestJ1WrongStreams(t *testing.T) {
	for _, o := range wrongOuts() {
		if e := out.Check(o); e != api.ErrRange {
			t.Errorf("Check of %+v is %d, want ErrRange", o, e)
		}
		for _, turn := range []bool{false, true} {
			wantSend(t, o, key(20, "a"), turn, answer{e: api.ErrRange})
			for _, l := range wrongFrames() {
				for _, f := range l {
					wantSend(t, o, f, turn, answer{e: api.ErrRange})
				}
			}
		}
	}
}

// TestJ1WrongFrames: times that go back and streams without room come along: Check of the frame tells ahead of them.
func TestJ1WrongFrames(t *testing.T) {
	for want, l := range wrongFrames() {
		for _, f := range l {
			for _, o := range rightOuts() {
				wantSend(t, o, f, false, answer{e: want})
				wantSend(t, o, f, true, answer{e: want})
			}
		}
	}
}

func TestJ1Packets(t *testing.T) {
	o := api.Out{Last: 7, Time: 100, Shift: 80}
	for _, c := range []struct {
		name string
		f    api.Frame
		want answer
	}{
		{"one part", pic(25, "a"), answer{api.Out{Last: 8, Time: 105, Shift: 80}, []api.Packet{{Seq: 8, Time: 105, First: true, End: true, Text: "a"}}, 0}},
		{"one part, Key", key(25, "a"), answer{api.Out{Last: 8, Time: 105, Shift: 80}, []api.Packet{{Seq: 8, Time: 105, First: true, End: true, Key: true, Text: "a"}}, 0}},
		{"two parts", pic(20, "a", "b"), answer{api.Out{Last: 9, Time: 100, Shift: 80}, []api.Packet{
			{Seq: 8, Time: 100, First: true, Text: "a"}, {Seq: 9, Time: 100, End: true, Text: "b"}}, 0}},
		{"four parts, Key", key(21, "12345678", "", "c", "c"), answer{api.Out{Last: 11, Time: 101, Shift: 80}, []api.Packet{
			{Seq: 8, Time: 101, First: true, Key: true, Text: "12345678"}, {Seq: 9, Time: 101}, {Seq: 10, Time: 101, Text: "c"}, {Seq: 11, Time: 101, End: true, Text: "c"}}, 0}},
	} {
		if got := send(o, c.f, false); !got.same(c.want) {
			t.Errorf("%s: Send is %+v, want %+v", c.name, got, c.want)
		}
	}
}

// TestJ1Turns: where the stream is behind a frame of one part, and what is added to times then.
func TestJ1Turns(t *testing.T) {
	for _, c := range []struct {
		name string
		o    api.Out
		f    api.Frame
		turn bool
		want api.Out
	}{
		{"nothing was sent yet", api.Out{}, key(500, "a"), false, api.Out{Last: 1, Time: 10, Shift: -490}},
		{"nothing was sent yet, a turn", api.Out{}, key(500, "a"), true, api.Out{Last: 1, Time: 10, Shift: -490}},
		{"nothing was sent yet, time 0", api.Out{}, key(0, "a"), false, api.Out{Last: 1, Time: 10, Shift: 10}},
		{"nothing was sent yet, the greatest time", api.Out{}, key(api.MaxTime, "a"), false, api.Out{Last: 1, Time: 10, Shift: 10 - api.MaxTime}},
		{"nothing was sent yet, but there is a time, and a Shift", api.Out{Time: 40, Shift: 7}, pic(3, "a"), false, api.Out{Last: 1, Time: 50, Shift: 47}},
		{"it goes on", api.Out{Last: 1, Time: 10, Shift: -490}, pic(503, "a"), false, api.Out{Last: 2, Time: 13, Shift: -490}},
		{"it goes on at the same time", api.Out{Last: 1, Time: 10, Shift: -490}, pic(500, "a"), false, api.Out{Last: 2, Time: 10, Shift: -490}},
		{"it goes on without a Shift", api.Out{Last: 1, Time: 10}, pic(10, "a"), false, api.Out{Last: 2, Time: 10}},
		{"a turn back", api.Out{Last: 1, Time: 13, Shift: -490}, key(2, "a"), true, api.Out{Last: 2, Time: 23, Shift: 21}},
		{"a turn far on", api.Out{Last: 1, Time: 13, Shift: 0}, key(900, "a"), true, api.Out{Last: 2, Time: 23, Shift: -877}},
		{"a turn to where it would be", api.Out{Last: 1, Time: 13, Shift: 5}, key(18, "a"), true, api.Out{Last: 2, Time: 23, Shift: 5}},
		{"a turn of one that is not Key", api.Out{Last: 1, Time: 13, Shift: 5}, pic(0, "a"), true, api.Out{Last: 2, Time: 23, Shift: 23}},
		{"it goes on up to MaxTime", api.Out{Last: 1, Time: 0, Shift: api.MaxTime}, key(0, "a"), false, api.Out{Last: 2, Time: api.MaxTime, Shift: api.MaxTime}},
		{"a turn up to MaxTime", api.Out{Last: 1, Time: api.MaxTime - 10, Shift: 5}, key(0, "a"), true, api.Out{Last: 2, Time: api.MaxTime, Shift: api.MaxTime}},
		{"it goes on down to 0", api.Out{Last: 1, Shift: -api.MaxTime}, key(api.MaxTime, "a"), false, api.Out{Last: 2, Time: 0, Shift: -api.MaxTime}},
	} {
		got := send(c.o, c.f, c.turn)
		want := answer{c.want, []api.Packet{{Seq: c.want.Last, Time: c.want.Time, First: true, End: true, Key: c.f.Key, Text: "a"}}, api.OK}
		if !got.same(want) {
			t.Errorf("%s: Send is %+v, want %+v", c.name, got, want)
		}
	}
}

func TestJ1NumbersGoRound(t *testing.T) {
	f := pic(5, "a", "b", "c")
	for _, c := range []struct {
		last int
		seqs []int
	}{
		{0, []int{1, 2, 3}},
		{65532, []int{65533, 65534, 65535}},
		{65533, []int{65534, 65535, 0}},
		{65534, []int{65535, 0, 1}},
		{65535, []int{0, 1, 2}},
		{131071, []int{0, 1, 2}},
		{api.MaxN - 3, []int{51710, 51711, 51712}},
	} {
		got := send(api.Out{Last: c.last}, f, true)
		var seqs []int
		for _, p := range got.l {
			seqs = append(seqs, p.Seq)
		}
		if got.e != api.OK || !slices.Equal(seqs, c.seqs) || got.o.Last != c.last+3 {
			t.Errorf("Send behind %d is %+v, want %v", c.last, got, c.seqs)
		}
	}
}

func TestJ1NoRoom(t *testing.T) {
	two := key(20, "a", "b")
	for _, c := range []struct {
		name string
		o    api.Out
		f    api.Frame
		turn bool
		want api.Errno
	}{
		{"a time that goes back by one", api.Out{Last: 1, Time: 21}, two, false, api.ErrState},
		{"a time that goes back by Shift", api.Out{Last: 1, Time: 0, Shift: -21}, two, false, api.ErrState},
		{"a time that goes back far", api.Out{Last: 1, Time: api.MaxTime, Shift: -api.MaxTime}, key(0, "a"), false, api.ErrState},
		{"a time more than MaxTime by one", api.Out{Last: 1, Shift: api.MaxTime - 19}, two, false, api.ErrMany},
		{"a time more than MaxTime by far", api.Out{Last: 1, Shift: api.MaxTime}, key(api.MaxTime, "a"), false, api.ErrMany},
		{"a turn to more than MaxTime", api.Out{Last: 1, Time: api.MaxTime - 9}, two, true, api.ErrMany},
		{"a first one at more than MaxTime", api.Out{Time: api.MaxTime - 9}, two, false, api.ErrMany},
		{"numbers at an end by one", api.Out{Last: api.MaxN - 1}, two, false, api.ErrMany},
		{"numbers at an end by one, a turn", api.Out{Last: api.MaxN - 1}, two, true, api.ErrMany},
		{"numbers at an end", api.Out{Last: api.MaxN}, key(20, "a"), false, api.ErrMany},
		{"a time that goes back tells ahead of numbers at an end", api.Out{Last: api.MaxN, Time: 21}, two, false, api.ErrState},
		{"both too great", api.Out{Last: api.MaxN, Time: api.MaxTime}, two, true, api.ErrMany},
	} {
		if got := send(c.o, c.f, c.turn); !got.same(answer{e: c.want}) {
			t.Errorf("%s: Send is %+v, want nothing and %d", c.name, got, c.want)
		}
	}
	wantSend(t, api.Out{Last: api.MaxN - 2, Time: 15}, two, false, answer{api.Out{Last: api.MaxN, Time: 20}, []api.Packet{
		{Seq: 51711, Time: 20, First: true, Key: true, Text: "a"}, {Seq: 51712, Time: 20, End: true, Text: "b"}}, api.OK})
}

// drawn: numbers below n, the same each time.
type drawn uint64

func (d *drawn) below(n int) int {
	*d = *d*6364136223846793005 + 1442695040888963407
	return int(uint64(*d)>>33) % n
}

func (d *drawn) frame(time int) api.Frame {
	f := api.Frame{Time: time, Key: d.below(3) == 0, Parts: make([]string, 1+d.below(4))}
	for i := range f.Parts {
		f.Parts[i] = strings.Repeat(string(rune('a'+d.below(26))), d.below(9))
	}
	return f
}

// viewer: what one sees of a stream, from packet to packet.
type viewer struct {
	count, time int
	slots       []api.Slot // as pictures are made of them
	frames      []api.Frame
}

// see the packets of a frame: numbers go on by one, times never go back; a turn's time is a gap further on.
func (v *viewer) see(t *testing.T, l []api.Packet, f api.Frame, turned bool) {
	t.Helper()
	for _, p := range l {
		v.count++
		if p.Seq != v.count%65536 || p.Time < v.time || turned && p.First && p.Time != v.time+10 {
			t.Fatalf("packet %d behind time %d (turn %v) is %+v", v.count, v.time, turned, p)
		}
		v.time = p.Time
		v.slots = append(v.slots, api.Slot{N: v.count, P: p})
	}
	f.Time = v.time
	v.frames = append(v.frames, f)
}

// TestJ2OneStream: whatever frames and turns come, what is sent is one stream, and what is refused leaves it as it was.
func TestJ2OneStream(t *testing.T) {
	var d drawn
	for round := range 200 {
		o, v := api.Out{}, viewer{}
		if round%2 == 1 { // where numbers go round
			o.Last, v.count = 65500, 65500
		}
		media := d.below(1000)
		for range 150 {
			media = max(0, media+d.below(30)-10)
			f, turn := d.frame(media), d.below(9) == 0
			shift := o.Shift
			got := send(o, f, turn)
			turned := turn || v.count == 0
			if back := !turned && media+shift < v.time; back != (got.e == api.ErrState) || !back && got.e != api.OK {
				t.Fatalf("Send of %+v to %+v (turn %v) is %+v", f, o, turn, got)
			}
			if got.e != api.OK {
				continue
			}
			v.see(t, got.l, f, turned)
			if len(got.l) != len(f.Parts) || got.o != (api.Out{Last: v.count, Time: v.time, Shift: v.time - media}) || !turned && got.o.Shift != shift {
				t.Fatalf("Send of %+v to %+v (turn %v) is %+v", f, o, turn, got)
			}
			o = got.o
		}
		v.wantFrames(t)
	}
}

// wantFrames: of the packets of a stream the same pictures are made again (where their numbers are such as pictures are made of).
func (v *viewer) wantFrames(t *testing.T) {
	t.Helper()
	var made []api.Frame
	var b api.Builder
	for _, x := range v.slots {
		x.N += api.MinN
		next, f, has, e := frame.Add(b, x)
		if e != api.OK {
			t.Fatalf("Add of %+v is %d", x, e)
		}
		if has {
			made = append(made, f)
		}
		b = next
	}
	if !reflect.DeepEqual(made, v.frames) {
		t.Fatalf("of what was sent are made %+v, want %+v", made, v.frames)
	}
}

// spare: a frame with room behind its list.
func spare() api.Frame { return key(5, []string{"a", "b", "spare", "spare"}[:2]...) }

func TestP2WhatIsHandedInIsOnlyRead(t *testing.T) {
	for _, o := range []api.Out{{}, {Last: 5}, {Last: 5, Time: 6}, {Last: api.MaxN}, {Last: -1}} {
		f := spare()
		out.Send(o, f, false)
		out.Send(o, f, true)
		if !reflect.DeepEqual(f, spare()) || !slices.Equal(f.Parts[:4], spare().Parts[:4]) {
			t.Errorf("what was handed in is %+v, was %+v", f.Parts[:4], spare().Parts[:4])
		}
	}
}

func TestP2AnswersAreNewMemory(t *testing.T) {
	f := spare()
	first, second := send(api.Out{}, f, false), send(api.Out{}, f, false)
	want := slices.Clone(first.l)
	f.Parts[0], f.Parts[1] = "x", "y"
	if !slices.Equal(first.l, want) {
		t.Errorf("a later change of what was handed in is seen: %+v, want %+v", first.l, want)
	}
	clear(first.l[:cap(first.l)])
	if !slices.Equal(second.l, want) || len(want) != 2 {
		t.Errorf("one answer is changed by way of another one: %+v, want %+v", second.l, want)
	}
}

func TestP2TextsAreNewMemory(t *testing.T) {
	text := string([]byte("text"))
	for _, p := range send(api.Out{}, key(5, text, text), false).l {
		if p.Text != "text" || unsafe.StringData(p.Text) == unsafe.StringData(text) {
			t.Errorf("the text of %+v must be there, and of its own", p)
		}
	}
}

func TestP3AnswersAreTheSameAgain(t *testing.T) {
	for range 3 {
		for _, o := range wrongOuts() {
			out.Check(o)
			out.Send(o, key(20, "a"), true)
		}
		out.Send(api.Out{Last: 9, Time: 99}, key(20, "a"), false)
		want := []api.Packet{{Seq: 1, Time: 10, First: true, End: true, Key: true, Text: "a"}}
		wantSend(t, api.Out{}, key(20, "a"), false, answer{api.Out{Last: 1, Time: 10, Shift: -10}, want, api.OK})
	}
}
