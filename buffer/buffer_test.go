package buffer_test

import (
	"math"
	"slices"
	"testing"
	"unsafe"

	"switchback/api"
	"switchback/buffer"
)

// at a number: a packet with the Seq that belongs there.
func at(n int, text string) api.Slot {
	return api.Slot{N: n, P: api.Packet{Seq: n % 65536, Time: 1, Text: text}}
}

// held slots with these numbers.
func held(numbers ...int) []api.Slot {
	var l []api.Slot
	for _, n := range numbers {
		l = append(l, at(n, "h"))
	}
	return l
}

func numbers(l []api.Slot) []int {
	var all []int
	for _, x := range l {
		all = append(all, x.N)
	}
	return all
}

var (
	long     = at(70001, "123456789")
	wrongSeq = api.Slot{N: 70001, P: api.Packet{Seq: 1}}
	badTime  = api.Slot{N: 70001, P: api.Packet{Seq: 70001 % 65536, Time: -1}}
	keyAlone = api.Slot{N: 70001, P: api.Packet{Seq: 70001 % 65536, Key: true}}
)

// badBuffers: each with the error that C1 asks for.
var badBuffers = []struct {
	name string
	b    api.Buffer
	want api.Errno
}{
	{"Next below 0", api.Buffer{Next: -1}, api.ErrRange},
	{"Next 1", api.Buffer{Next: 1}, api.ErrRange},
	{"Next below MinN", api.Buffer{Next: api.MinN - 1}, api.ErrRange},
	{"Next above MaxN and 1", api.Buffer{Next: api.MaxN + 2}, api.ErrRange},
	{"least Next", api.Buffer{Next: math.MinInt}, api.ErrRange},
	{"greatest Next", api.Buffer{Next: math.MaxInt}, api.ErrRange},
	{"too many", api.Buffer{Next: 70000, Held: held(70001, 70002, 70003, 70004, 70005)}, api.ErrMany},
	{"a slot that is nothing", api.Buffer{Next: 70000, Held: []api.Slot{{}}}, api.ErrRange},
	{"N above MaxN", api.Buffer{Next: 70000, Held: held(api.MaxN + 1)}, api.ErrRange},
	{"a time below 0", api.Buffer{Next: 70000, Held: []api.Slot{badTime}}, api.ErrRange},
	{"a text too long", api.Buffer{Next: 70000, Held: []api.Slot{long}}, api.ErrMany},
	{"Key, not First", api.Buffer{Next: 70000, Held: []api.Slot{keyAlone}}, api.ErrState},
	{"a wrong Seq", api.Buffer{Next: 70000, Held: []api.Slot{wrongSeq}}, api.ErrState},
	{"the last one wrong", api.Buffer{Next: 70000, Held: append(held(70001, 70002, 70003), at(70004, "123456789"))}, api.ErrMany},
	{"N goes back", api.Buffer{Next: 70000, Held: held(70002, 70001)}, api.ErrState},
	{"N twice", api.Buffer{Next: 70000, Held: held(70002, 70002)}, api.ErrState},
	{"the last N goes back", api.Buffer{Next: 70000, Held: held(70001, 70003, 70005, 70004)}, api.ErrState},
	{"N is Next", api.Buffer{Next: 70000, Held: held(70000)}, api.ErrState},
	{"N less than Next", api.Buffer{Next: 70000, Held: held(69999)}, api.ErrState},
	{"N less than Next, then more", api.Buffer{Next: 70000, Held: held(69999, 70001)}, api.ErrState},
	{"Next 0 and something held", api.Buffer{Held: held(70000)}, api.ErrState},
	{"Next at its end and something held", api.Buffer{Next: api.MaxN + 1, Held: held(api.MaxN)}, api.ErrState},
	{"Next ahead of too many", api.Buffer{Next: 1, Held: held(70001, 70002, 70003, 70004, 70005)}, api.ErrRange},
	{"Next ahead of slots", api.Buffer{Next: -1, Held: []api.Slot{long}}, api.ErrRange},
	{"too many ahead of slots", api.Buffer{Next: 70000, Held: make([]api.Slot, 5)}, api.ErrMany},
	{"too many ahead of Next 0", api.Buffer{Held: held(70001, 70002, 70003, 70004, 70005)}, api.ErrMany},
	{"the first wrong slot tells: Text", api.Buffer{Next: 70000, Held: []api.Slot{long, wrongSeq}}, api.ErrMany},
	{"the first wrong slot tells: Seq", api.Buffer{Next: 70000, Held: []api.Slot{wrongSeq, long}}, api.ErrState},
	{"the first wrong slot tells: it does not rise", api.Buffer{Next: 70000, Held: []api.Slot{at(70003, ""), at(70002, ""), long}}, api.ErrState},
	{"the first wrong slot tells: it is there twice", api.Buffer{Next: 70000, Held: []api.Slot{at(70002, ""), at(70002, ""), {}}}, api.ErrState},
	{"the first wrong slot tells: it is Next", api.Buffer{Next: 70000, Held: []api.Slot{at(70000, ""), at(5, "")}}, api.ErrState},
	{"the first wrong slot tells: it is less than Next", api.Buffer{Next: 70005, Held: []api.Slot{at(70003, ""), {}}}, api.ErrState},
	{"the first wrong slot tells: it is no number", api.Buffer{Next: 70000, Held: []api.Slot{at(5, ""), at(4, "")}}, api.ErrRange},
	{"the first wrong slot tells: the next one does not rise", api.Buffer{Next: 70000, Held: []api.Slot{long, at(70001, "")}}, api.ErrMany},
	{"of one slot its own error ahead of one that does not rise", api.Buffer{Next: 70000, Held: []api.Slot{at(70009, ""), long}}, api.ErrMany},
	{"of one slot its own error ahead of one that is not more than Next", api.Buffer{Next: 70001, Held: []api.Slot{long}}, api.ErrMany},
	{"a slot ahead of Next 0", api.Buffer{Held: []api.Slot{long}}, api.ErrMany},
	{"the last slot ahead of Next 0", api.Buffer{Held: []api.Slot{at(70000, ""), long}}, api.ErrMany},
}

var goodBuffers = []api.Buffer{
	{},
	{Held: []api.Slot{}},
	{Next: api.MinN},
	{Next: 70000},
	{Next: api.MaxN},
	{Next: api.MaxN + 1},
	{Next: 70000, Held: held(70001)},
	{Next: 70000, Held: held(70001, 70002, 70003, 70004)},
	{Next: api.MinN, Held: held(api.MinN+1, 131072, api.MaxN)},
	{Next: api.MaxN - 1, Held: held(api.MaxN)},
}

var badSlots = []struct {
	x    api.Slot
	want api.Errno
}{
	{api.Slot{}, api.ErrRange},
	{at(api.MinN-1, ""), api.ErrRange},
	{at(api.MaxN+1, ""), api.ErrRange},
	{badTime, api.ErrRange},
	{long, api.ErrMany},
	{keyAlone, api.ErrState},
	{wrongSeq, api.ErrState},
}

func sameBuffer(a, b api.Buffer) bool { return a.Next == b.Next && slices.Equal(a.Held, b.Held) }

func isZero(b api.Buffer, out []api.Slot) bool {
	return b.Next == 0 && len(b.Held) == 0 && len(out) == 0
}

func TestC1CheckTellsWhatIsWrong(t *testing.T) {
	for _, c := range badBuffers {
		if got := buffer.Check(c.b); got != c.want {
			t.Errorf("%s: Check is %d, want %d", c.name, got, c.want)
		}
	}
}

// wrongOf held slots: each error of each one, those of the first slot first, then what is wrong of all.
func wrongOf(b api.Buffer) []api.Errno {
	var wrong []api.Errno
	say := func(is bool, e api.Errno) {
		if is {
			wrong = append(wrong, e)
		}
	}
	for i, x := range b.Held {
		say(x.N < api.MinN || x.N > api.MaxN, api.ErrRange)
		say(len(x.P.Text) > api.MaxBytes, api.ErrMany)
		say(x.P.Seq != x.N%65536, api.ErrState)
		say(i > 0 && x.N <= b.Held[max(i, 1)-1].N || x.N <= b.Next, api.ErrState)
	}
	say(b.Next == 0 && len(b.Held) > 0, api.ErrState)
	return append(wrong, api.OK)
}

// TestC1TheFirstWrongSlotTells: all ways in which three slots are held, each right or wrong by itself and in its place.
func TestC1TheFirstWrongSlotTells(t *testing.T) {
	var kinds []api.Slot
	for _, n := range []int{5, 70000, 70001, 70002, 70003, api.MaxN + 1} {
		other := at(n, "h")
		other.P.Seq = 9
		kinds = append(kinds, at(n, "h"), at(n, "123456789"), other)
	}
	for _, next := range []int{0, 70000, 70001, 70002} {
		for _, x := range kinds {
			for _, y := range kinds {
				for _, z := range kinds {
					b := api.Buffer{Next: next, Held: []api.Slot{x, y, z}}
					want := wrongOf(b)[0]
					_, _, put := buffer.Put(b, at(70000, ""))
					_, _, flush := buffer.Flush(b)
					if check := buffer.Check(b); check != want || put != want || flush != want {
						t.Fatalf("%+v: Check is %d, Put %d, Flush %d, want %d", b, check, put, flush, want)
					}
				}
			}
		}
	}
}

func TestC1CheckTakesWhatIsRight(t *testing.T) {
	for _, b := range goodBuffers {
		if got := buffer.Check(b); got != api.OK {
			t.Errorf("Check of %+v is %d, want OK", b, got)
		}
	}
}

func TestC2ErrorsOfTheBuffer(t *testing.T) {
	for _, c := range badBuffers {
		for _, x := range []api.Slot{at(70000, ""), {}, long} {
			if b, out, e := buffer.Put(c.b, x); e != c.want || !isZero(b, out) {
				t.Errorf("%s: Put is %+v %+v %d, want nothing and %d", c.name, b, out, e, c.want)
			}
		}
		if b, out, e := buffer.Flush(c.b); e != c.want || !isZero(b, out) {
			t.Errorf("%s: Flush is %+v %+v %d, want nothing and %d", c.name, b, out, e, c.want)
		}
	}
}

func TestC2ErrorsOfTheSlot(t *testing.T) {
	for _, c := range badSlots {
		for _, b := range goodBuffers {
			if got, out, e := buffer.Put(b, c.x); e != c.want || !isZero(got, out) {
				t.Errorf("Put of %+v is %+v %+v %d, want nothing and %d", c.x, got, out, e, c.want)
			}
		}
	}
}

func TestC2Put(t *testing.T) {
	for _, c := range []struct {
		name      string
		b         api.Buffer
		n         int
		next      int
		held, out []int
	}{
		{"the first one", api.Buffer{}, 70000, 70001, nil, []int{70000}},
		{"the first one, the least", api.Buffer{}, api.MinN, api.MinN + 1, nil, []int{api.MinN}},
		{"the first one, the greatest", api.Buffer{}, api.MaxN, api.MaxN + 1, nil, []int{api.MaxN}},
		{"its turn", api.Buffer{Next: 70000}, 70000, 70001, nil, []int{70000}},
		{"less than Next", api.Buffer{Next: 70000, Held: held(70002)}, 69999, 70000, []int{70002}, nil},
		{"far less than Next", api.Buffer{Next: 70000, Held: held(70002)}, api.MinN, 70000, []int{70002}, nil},
		{"less than the last Next", api.Buffer{Next: api.MaxN + 1}, api.MaxN, api.MaxN + 1, nil, nil},
		{"held already", api.Buffer{Next: 70000, Held: held(70002, 70004)}, 70002, 70000, []int{70002, 70004}, nil},
		{"held already, full", api.Buffer{Next: 70000, Held: held(70001, 70002, 70003, 70004)}, 70004, 70000, []int{70001, 70002, 70003, 70004}, nil},
		{"ahead of its turn", api.Buffer{Next: 70000}, 70001, 70000, []int{70001}, nil},
		{"ahead of what is held", api.Buffer{Next: 70000, Held: held(70004)}, 70002, 70000, []int{70002, 70004}, nil},
		{"between", api.Buffer{Next: 70000, Held: held(70002, 70006)}, 70004, 70000, []int{70002, 70004, 70006}, nil},
		{"behind what is held", api.Buffer{Next: 70000, Held: held(70002)}, 70004, 70000, []int{70002, 70004}, nil},
		{"its turn, not that of what is held", api.Buffer{Next: 70000, Held: held(70002)}, 70000, 70001, []int{70002}, []int{70000}},
		{"its turn, and of some", api.Buffer{Next: 70000, Held: held(70001, 70002, 70004)}, 70000, 70003, []int{70004}, []int{70000, 70001, 70002}},
		{"its turn, and of all", api.Buffer{Next: 70000, Held: held(70001, 70002, 70003, 70004)}, 70000, 70005, nil, []int{70000, 70001, 70002, 70003, 70004}},
		{"its turn, four stay", api.Buffer{Next: 70000, Held: held(70002, 70003, 70004, 70005)}, 70000, 70001, []int{70002, 70003, 70004, 70005}, []int{70000}},
		{"the fourth", api.Buffer{Next: 70000, Held: held(70001, 70002, 70003)}, 70004, 70000, []int{70001, 70002, 70003, 70004}, nil},
		{"the fifth: one is given up", api.Buffer{Next: 70000, Held: held(70001, 70003, 70005, 70007)}, 70009, 70002, []int{70003, 70005, 70007, 70009}, []int{70001}},
		{"the fifth: some go out", api.Buffer{Next: 70000, Held: held(70001, 70002, 70005, 70007)}, 70009, 70003, []int{70005, 70007, 70009}, []int{70001, 70002}},
		{"the fifth: all go out", api.Buffer{Next: 70000, Held: held(70001, 70002, 70003, 70005)}, 70004, 70006, nil, []int{70001, 70002, 70003, 70004, 70005}},
		{"the fifth is the first", api.Buffer{Next: 70000, Held: held(70004, 70006, 70008, 70010)}, 70002, 70003, []int{70004, 70006, 70008, 70010}, []int{70002}},
		{"the fifth goes out with the first", api.Buffer{Next: 70000, Held: held(70004, 70006, 70008, 70010)}, 70005, 70007, []int{70008, 70010}, []int{70004, 70005, 70006}},
		{"the greatest goes out", api.Buffer{Next: api.MaxN - 1, Held: held(api.MaxN)}, api.MaxN - 1, api.MaxN + 1, nil, []int{api.MaxN - 1, api.MaxN}},
		{"where Seq goes round", api.Buffer{Next: 131071, Held: held(131072)}, 131071, 131073, nil, []int{131071, 131072}},
	} {
		b, out, e := buffer.Put(c.b, at(c.n, "n"))
		if e != api.OK || b.Next != c.next || !slices.Equal(numbers(b.Held), c.held) || !slices.Equal(numbers(out), c.out) {
			t.Errorf("%s: Put is %d %v %v %d, want %d %v %v OK", c.name, b.Next, numbers(b.Held), numbers(out), e, c.next, c.held, c.out)
		}
	}
}

func TestC2WhatIsHeldAlreadyStaysAsItWas(t *testing.T) {
	b := api.Buffer{Next: 70000, Held: held(70002, 70004)}
	got, out, e := buffer.Put(b, api.Slot{N: 70002, P: api.Packet{Seq: 70002 % 65536, Time: 9, First: true, End: true, Text: "other"}})
	if e != api.OK || len(out) != 0 || !sameBuffer(got, b) {
		t.Errorf("Put is %+v %+v %d, want the buffer as it was", got, out, e)
	}
}

func TestC2Flush(t *testing.T) {
	for _, c := range []struct {
		b    api.Buffer
		next int
		out  []int
	}{
		{api.Buffer{}, 0, nil},
		{api.Buffer{Next: api.MinN}, api.MinN, nil},
		{api.Buffer{Next: api.MaxN + 1}, api.MaxN + 1, nil},
		{api.Buffer{Next: 70000, Held: held(70001)}, 70002, []int{70001}},
		{api.Buffer{Next: 70000, Held: held(70001, 70002)}, 70003, []int{70001, 70002}},
		{api.Buffer{Next: 70000, Held: held(70002, 70004, 70005, 70009)}, 70010, []int{70002, 70004, 70005, 70009}},
		{api.Buffer{Next: api.MinN, Held: held(api.MaxN)}, api.MaxN + 1, []int{api.MaxN}},
	} {
		b, out, e := buffer.Flush(c.b)
		if e != api.OK || b.Next != c.next || len(b.Held) != 0 || !slices.Equal(numbers(out), c.out) {
			t.Errorf("Flush of %+v is %d %v %v %d, want %d, none held, %v OK", c.b, b.Next, numbers(b.Held), numbers(out), e, c.next, c.out)
		}
		if !slices.Equal(out, c.b.Held) {
			t.Errorf("Flush of %+v lets out %+v", c.b, out)
		}
	}
}

// line is a buffer told another way: what waits, by its number.
type line struct {
	next  int
	waits map[int]api.Slot
}

func (l *line) put(x api.Slot) []api.Slot {
	if l.next == 0 {
		l.next = x.N
	}
	if _, twice := l.waits[x.N]; twice || x.N < l.next {
		return nil
	}
	l.waits[x.N] = x
	var out []api.Slot
	for {
		for _, there := l.waits[l.next]; there; _, there = l.waits[l.next] {
			out = append(out, l.waits[l.next])
			delete(l.waits, l.next)
			l.next++
		}
		if len(l.waits) <= 4 {
			return out
		}
		for _, there := l.waits[l.next]; !there; _, there = l.waits[l.next] {
			l.next++
		}
	}
}

// checkOrder plays numbers that come in, each with a text of its own, and looks at what C2 and C3 say of it.
func checkOrder(t *testing.T, come []int) {
	var b api.Buffer
	l := line{waits: map[int]api.Slot{}}
	came := map[int][]api.Slot{}
	last := 0
	rises := func(out []api.Slot) {
		for _, x := range out {
			if x.N <= last || !slices.Contains(came[x.N], x) {
				t.Fatalf("%v: %+v went out behind %d", come, x, last)
			}
			last = x.N
		}
	}
	for i, n := range come {
		x := at(n, string([]byte{'a' + byte(i%26), 'a' + byte(i/26%26)}))
		came[n] = append(came[n], x)
		c, out, e := buffer.Put(b, x)
		want := l.put(x)
		if e != api.OK || buffer.Check(c) != api.OK || c.Next != l.next || len(c.Held) != len(l.waits) || !slices.Equal(out, want) {
			t.Fatalf("%v: Put %d is %+v %+v %d, want %+v %+v", come, i, c, out, e, l, want)
		}
		for _, h := range c.Held {
			if l.waits[h.N] != h {
				t.Fatalf("%v: Put %d holds %+v, want %+v", come, i, h, l.waits[h.N])
			}
		}
		rises(out)
		b = c
	}
	c, out, e := buffer.Flush(b)
	rises(out)
	if e != api.OK || buffer.Check(c) != api.OK || len(c.Held) != 0 || len(out) != len(b.Held) {
		t.Fatalf("%v: Flush is %+v %+v %d", come, c, out, e)
	}
	if len(out) > 0 && c.Next != last+1 || len(out) == 0 && c.Next != b.Next {
		t.Fatalf("%v: Flush has Next %d behind %d", come, c.Next, last)
	}
}

// TestC3EveryOrder: all ways in which seven packets of eight numbers come in.
func TestC3EveryOrder(t *testing.T) {
	const most, kinds = 7, 8
	come := make([]int, most)
	for way := range 1 << (3 * most) {
		for i := range come {
			come[i] = 131068 + way>>(3*i)%kinds
		}
		if come[0] > 131070 && way%7 != 0 {
			continue // most of what comes behind a late beginning is less than Next
		}
		checkOrder(t, come)
	}
}

// drawn: numbers below n, the same each time.
type drawn uint64

func (d *drawn) below(n int) int {
	*d = *d*6364136223846793005 + 1442695040888963407
	return int(uint64(*d)>>33) % n
}

// TestC3LongOrders: numbers that go on, late, twice, or not at all.
func TestC3LongOrders(t *testing.T) {
	var d drawn
	for range 300 {
		var come []int
		n := 131000 + d.below(200)
		for range 120 {
			n += d.below(3)
			come = append(come, n+d.below(9)-4)
		}
		checkOrder(t, come)
	}
}

func TestP2WhatIsHandedInIsOnlyRead(t *testing.T) {
	for _, n := range []int{70000, 70001, 70002, 70003, 70009, 69999} {
		spare := held(70002, 70004, 70006, 70008, 70010, 70012)
		b := api.Buffer{Next: 70001, Held: spare[:3]}
		was := slices.Clone(spare)
		buffer.Check(b)
		buffer.Put(b, at(n, "n"))
		buffer.Flush(b)
		b.Held = spare[:4]
		buffer.Put(b, at(n, "n"))
		if !slices.Equal(spare, was) {
			t.Errorf("Put of %d: what was handed in is %+v, was %+v", n, spare, was)
		}
	}
}

func TestP2AnswersAreNewMemory(t *testing.T) {
	b := api.Buffer{Next: 70000, Held: held(70001, 70003, 70005)}
	for _, n := range []int{69999, 70000, 70003, 70004} {
		c, out, _ := buffer.Put(b, at(n, "n"))
		d, all, _ := buffer.Flush(b)
		want := [][]api.Slot{slices.Clone(c.Held), slices.Clone(out), slices.Clone(d.Held), slices.Clone(all)}
		for i := range b.Held {
			b.Held[i].P.Time = 77
		}
		for i, l := range [][]api.Slot{c.Held, out, d.Held, all} {
			if !slices.Equal(l, want[i]) {
				t.Errorf("Put of %d: list %d is seen to change", n, i)
			}
		}
		b.Held = held(70001, 70003, 70005)
	}
}

func TestP2NoTwoListsShareMemory(t *testing.T) {
	b := api.Buffer{Next: 70000, Held: held(70001, 70003, 70005, 70007)}
	for _, n := range []int{70000, 70009} {
		c, out, _ := buffer.Put(b, at(n, "n"))
		wantHeld, wantOut := slices.Clone(c.Held), slices.Clone(out)
		// Whoever goes on with one list, in its spare room too, must not meet the other.
		for range 8 {
			out = append(out, api.Slot{N: 1})
		}
		_ = append(c.Held[:len(c.Held):cap(c.Held)], api.Slot{N: 2}, api.Slot{N: 3})
		if !slices.Equal(c.Held, wantHeld) || !slices.Equal(out[:len(wantOut)], wantOut) {
			t.Errorf("Put of %d: what is held and what went out share memory", n)
		}
	}
}

func TestP2TextsAreNewMemory(t *testing.T) {
	x, h := at(70000, string([]byte("new"))), at(70001, string([]byte("held")))
	_, out, _ := buffer.Put(api.Buffer{Next: 70000, Held: []api.Slot{h}}, x)
	if len(out) != 2 || unsafe.StringData(out[0].P.Text) == unsafe.StringData(x.P.Text) || unsafe.StringData(out[1].P.Text) == unsafe.StringData(h.P.Text) {
		t.Error("a text that went out shares memory with what was handed in")
	}
}

func TestP3AnswersAreTheSameAgain(t *testing.T) {
	b := api.Buffer{Next: 70000, Held: held(70001, 70003)}
	for range 3 {
		for _, c := range badBuffers {
			buffer.Put(c.b, at(70000, ""))
		}
		buffer.Flush(b)
		got, out, e := buffer.Put(b, at(70000, "n"))
		if e != api.OK || got.Next != 70002 || !slices.Equal(numbers(got.Held), []int{70003}) || !slices.Equal(numbers(out), []int{70000, 70001}) {
			t.Errorf("Put is %+v %+v %d", got, out, e)
		}
	}
}
