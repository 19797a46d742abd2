package frame_test

import (
	"math"
	"slices"
	"strings"
	"testing"
	"unsafe"

	"switchback/api"
	"switchback/frame"
)

// at a number: a packet; how says what it is (f first, e end, k key).
func at(n, time int, how, text string) api.Slot {
	p := api.Packet{Seq: n % 65536, Time: time, First: strings.Contains(how, "f"), End: strings.Contains(how, "e"), Key: strings.Contains(how, "k"), Text: text}
	return api.Slot{N: n, P: p}
}

func open(l ...api.Slot) api.Builder { return api.Builder{Open: l} }

func sameFrame(a, b api.Frame) bool {
	return a.Time == b.Time && a.Key == b.Key && slices.Equal(a.Parts, b.Parts)
}

func isZero(b api.Builder, f api.Frame, whole bool) bool {
	return len(b.Open) == 0 && sameFrame(f, api.Frame{}) && !whole
}

func TestD1CheckOfAFrame(t *testing.T) {
	long := "123456789"
	for _, c := range []struct {
		name string
		f    api.Frame
		want api.Errno
	}{
		{"one part", api.Frame{Parts: []string{"a"}}, api.OK},
		{"a part without bytes", api.Frame{Parts: []string{""}}, api.OK},
		{"all at their greatest", api.Frame{Time: api.MaxTime, Key: true, Parts: []string{"12345678", "12345678", "12345678", "12345678"}}, api.OK},
		{"a part of eight bytes that are no runes", api.Frame{Parts: []string{"éééé"}}, api.OK},
		{"Time below 0", api.Frame{Time: -1, Parts: []string{"a"}}, api.ErrRange},
		{"Time above MaxTime", api.Frame{Time: api.MaxTime + 1, Parts: []string{"a"}}, api.ErrRange},
		{"least Time", api.Frame{Time: math.MinInt, Parts: []string{"a"}}, api.ErrRange},
		{"greatest Time", api.Frame{Time: math.MaxInt, Parts: []string{"a"}}, api.ErrRange},
		{"nothing", api.Frame{}, api.ErrNone},
		{"no parts", api.Frame{Time: 5, Key: true, Parts: []string{}}, api.ErrNone},
		{"five parts", api.Frame{Parts: make([]string, 5)}, api.ErrMany},
		{"a hundred parts", api.Frame{Parts: make([]string, 100)}, api.ErrMany},
		{"a long part", api.Frame{Parts: []string{long}}, api.ErrMany},
		{"a long part of few runes", api.Frame{Parts: []string{"éééée"}}, api.ErrMany},
		{"the last part long", api.Frame{Parts: []string{"", "", "", long}}, api.ErrMany},
		{"Time ahead of no parts", api.Frame{Time: -1}, api.ErrRange},
		{"Time ahead of many parts", api.Frame{Time: -1, Parts: make([]string, 5)}, api.ErrRange},
		{"Time ahead of a long part", api.Frame{Time: api.MaxTime + 1, Parts: []string{long}}, api.ErrRange},
	} {
		if got := frame.Check(c.f); got != c.want {
			t.Errorf("%s: Check is %d, want %d", c.name, got, c.want)
		}
	}
}

// badBuilders: each with the error that D1 asks for.
var badBuilders = []struct {
	name string
	b    api.Builder
	want api.Errno
}{
	{"MaxParts open", open(at(70000, 5, "f", ""), at(70001, 5, "", ""), at(70002, 5, "", ""), at(70003, 5, "", "")), api.ErrMany},
	{"more open", api.Builder{Open: make([]api.Slot, 100)}, api.ErrMany},
	{"a slot that is nothing", open(api.Slot{}), api.ErrRange},
	{"N below MinN", open(at(api.MinN-1, 5, "f", "")), api.ErrRange},
	{"N above MaxN", open(at(api.MaxN+1, 5, "f", "")), api.ErrRange},
	{"N above MaxN, not the first one", open(at(api.MaxN, 5, "f", ""), at(api.MaxN+1, 5, "", "")), api.ErrRange},
	{"Time above MaxTime", open(at(70000, api.MaxTime+1, "f", "")), api.ErrRange},
	{"Text too long", open(at(70000, 5, "f", "123456789")), api.ErrMany},
	{"Key, not First", open(at(70000, 5, "k", "")), api.ErrState},
	{"wrong Seq", open(api.Slot{N: 70000, P: api.Packet{Seq: 1, First: true}}), api.ErrState},
	{"the first one is not First", open(at(70000, 5, "", "")), api.ErrState},
	{"the first one is not First, the second one is", open(at(70000, 5, "", ""), at(70001, 5, "f", "")), api.ErrState},
	{"another one is First", open(at(70000, 5, "f", ""), at(70001, 5, "f", "")), api.ErrState},
	{"the last one is First", open(at(70000, 5, "f", ""), at(70001, 5, "", ""), at(70002, 5, "f", "")), api.ErrState},
	{"the first one is End", open(at(70000, 5, "fe", "")), api.ErrState},
	{"the second one is End", open(at(70000, 5, "f", ""), at(70001, 5, "e", "")), api.ErrState},
	{"the last one is End", open(at(70000, 5, "f", ""), at(70001, 5, "", ""), at(70002, 5, "e", "")), api.ErrState},
	{"a number is left out", open(at(70000, 5, "f", ""), at(70002, 5, "", "")), api.ErrState},
	{"a number twice", open(at(70000, 5, "f", ""), at(70000, 5, "", "")), api.ErrState},
	{"a number goes back", open(at(70001, 5, "f", ""), at(70000, 5, "", "")), api.ErrState},
	{"the last number is left out", open(at(70000, 5, "f", ""), at(70001, 5, "", ""), at(70003, 5, "", "")), api.ErrState},
	{"a greater time", open(at(70000, 5, "f", ""), at(70001, 6, "", "")), api.ErrState},
	{"a less time", open(at(70000, 5, "f", ""), at(70001, 4, "", "")), api.ErrState},
	{"another last time", open(at(70000, 5, "f", ""), at(70001, 5, "", ""), at(70002, 6, "", "")), api.ErrState},
	{"many ahead of slots", api.Builder{Open: make([]api.Slot, 4)}, api.ErrMany},
	{"the first wrong slot tells", open(at(70000, 5, "f", "123456789"), api.Slot{}), api.ErrMany},
	{"the first wrong slot tells: it is not First", open(at(70000, 5, "", ""), at(70001, 5, "", "123456789")), api.ErrState},
	{"the first wrong slot tells: it is End", open(at(70000, 5, "fe", ""), api.Slot{}), api.ErrState},
	{"the first wrong slot tells: another one is First", open(at(70000, 5, "f", ""), at(70001, 5, "f", ""), at(70002, 5, "", "123456789")), api.ErrState},
	{"the first wrong slot tells: another one is End", open(at(70000, 5, "f", ""), at(70001, 5, "e", ""), api.Slot{}), api.ErrState},
	{"the first wrong slot tells: its number does not follow", open(at(70000, 5, "f", ""), at(70002, 5, "", ""), at(70003, 5, "", "123456789")), api.ErrState},
	{"the first wrong slot tells: its time is another", open(at(70000, 5, "f", ""), at(70001, 6, "", ""), at(70002, 6, "", "123456789")), api.ErrState},
	{"the first wrong slot tells: it has no number", open(at(5, 5, "f", ""), at(6, 5, "f", "")), api.ErrRange},
	{"of one slot its own error ahead of First", open(at(70000, 5, "", "123456789")), api.ErrMany},
	{"of one slot its own error ahead of End", open(at(70000, 5, "f", ""), at(70001, 5, "e", "123456789")), api.ErrMany},
	{"of one slot its own error ahead of what does not follow", open(at(70000, 5, "f", ""), at(70002, 5, "", "123456789")), api.ErrMany},
}

var badSlots = []struct {
	x    api.Slot
	want api.Errno
}{
	{api.Slot{}, api.ErrRange},
	{at(api.MinN-1, 5, "fe", ""), api.ErrRange},
	{at(api.MaxN+1, 5, "fe", ""), api.ErrRange},
	{at(70001, -1, "fe", ""), api.ErrRange},
	{at(70001, 5, "fe", "123456789"), api.ErrMany},
	{at(70001, 5, "ke", ""), api.ErrState},
	{api.Slot{N: 70001, P: api.Packet{Seq: 1, First: true, End: true}}, api.ErrState},
}

func TestD1ErrorsOfTheBuilder(t *testing.T) {
	for _, c := range badBuilders {
		for _, x := range []api.Slot{at(70003, 5, "e", ""), at(70003, 5, "fe", ""), {}, at(70001, 5, "", "123456789")} {
			if b, f, whole, e := frame.Add(c.b, x); e != c.want || !isZero(b, f, whole) {
				t.Errorf("%s: Add is %+v %+v %v %d, want nothing and %d", c.name, b, f, whole, e, c.want)
			}
		}
	}
}

// wrongOf open slots: each error of each one, those of the first slot first.
func wrongOf(open []api.Slot) []api.Errno {
	var wrong []api.Errno
	say := func(is bool, e api.Errno) {
		if is {
			wrong = append(wrong, e)
		}
	}
	for i, x := range open {
		first, ahead := open[0], open[max(i, 1)-1]
		say(x.N < api.MinN || x.N > api.MaxN, api.ErrRange)
		say(len(x.P.Text) > api.MaxBytes, api.ErrMany)
		say(i == 0 && !x.P.First, api.ErrState)
		say(i > 0 && x.P.First, api.ErrState)
		say(x.P.End, api.ErrState)
		say(i > 0 && x.N != ahead.N+1, api.ErrState)
		say(x.P.Time != first.P.Time, api.ErrState)
	}
	return append(wrong, api.OK)
}

// TestD1TheFirstWrongSlotTells: all ways in which three slots are open, each right or wrong by itself and in its place.
func TestD1TheFirstWrongSlotTells(t *testing.T) {
	var kinds []api.Slot
	for _, n := range []int{5, 70000, 70001, 70002} {
		for _, how := range []string{"", "f", "e", "fe"} {
			kinds = append(kinds, at(n, 5, how, ""), at(n, 6, how, ""), at(n, 5, how, "123456789"))
		}
	}
	for _, x := range kinds {
		for _, y := range kinds {
			for _, z := range kinds {
				b := open(x, y, z)
				want := wrongOf(b.Open)[0]
				if _, _, _, e := frame.Add(b, at(70003, 5, "f", "")); e != want {
					t.Fatalf("Add to %+v is %d, want %d", b, e, want)
				}
			}
		}
	}
}

func TestD2ErrorsOfTheSlot(t *testing.T) {
	for _, c := range badSlots {
		for _, b := range []api.Builder{{}, open(at(70000, 5, "f", ""))} {
			if got, f, whole, e := frame.Add(b, c.x); e != c.want || !isZero(got, f, whole) {
				t.Errorf("Add of %+v is %+v %+v %v %d, want nothing and %d", c.x, got, f, whole, e, c.want)
			}
		}
	}
}

func TestD2Add(t *testing.T) {
	a, b, c := at(70000, 5, "fk", "a"), at(70001, 5, "", "b"), at(70002, 5, "", "c")
	none := api.Frame{}
	for _, k := range []struct {
		name string
		b    api.Builder
		x    api.Slot
		open []api.Slot
		want api.Frame
	}{
		{"First, from nothing", open(), a, []api.Slot{a}, none},
		{"First and End, from nothing", open(), at(70000, 5, "fe", "a"), nil, api.Frame{Time: 5, Parts: []string{"a"}}},
		{"First, End and Key, from nothing", open(), at(70000, 0, "fek", ""), nil, api.Frame{Key: true, Parts: []string{""}}},
		{"another one, from nothing", open(), b, nil, none},
		{"End, from nothing", open(), at(70001, 5, "e", "b"), nil, none},
		{"First: what was open is lost", open(a, b), at(70002, 5, "f", "n"), []api.Slot{at(70002, 5, "f", "n")}, none},
		{"First behind a gap", open(a, b), at(80000, 3, "f", "n"), []api.Slot{at(80000, 3, "f", "n")}, none},
		{"First and End: what was open is lost", open(a, b), at(70002, 6, "fe", "n"), nil, api.Frame{Time: 6, Parts: []string{"n"}}},
		{"it follows", open(a), b, []api.Slot{a, b}, none},
		{"it follows again", open(a, b), c, []api.Slot{a, b, c}, none},
		{"it follows where Seq goes round", open(at(131071, 5, "f", "a")), at(131072, 5, "", "b"), []api.Slot{at(131071, 5, "f", "a"), at(131072, 5, "", "b")}, none},
		{"it follows, and is End", open(a), at(70001, 5, "e", "b"), nil, api.Frame{Time: 5, Key: true, Parts: []string{"a", "b"}}},
		{"the fourth, and End", open(a, b, c), at(70003, 5, "e", "d"), nil, api.Frame{Time: 5, Key: true, Parts: []string{"a", "b", "c", "d"}}},
		{"the fourth, not End: they are lost", open(a, b, c), at(70003, 5, "", "d"), nil, none},
		{"the fourth is First", open(a, b, c), at(70003, 5, "f", "d"), []api.Slot{at(70003, 5, "f", "d")}, none},
		{"a number is left out", open(a), c, nil, none},
		{"a number is left out, and End", open(a), at(70002, 5, "e", "c"), nil, none},
		{"the same number", open(a, b), b, nil, none},
		{"a number goes back", open(a, b), at(70000, 5, "e", "b"), nil, none},
		{"another time", open(a), at(70001, 6, "", "b"), nil, none},
		{"another time, and End", open(a), at(70001, 4, "e", "b"), nil, none},
		{"the greatest number", open(at(api.MaxN-1, api.MaxTime, "f", "y")), at(api.MaxN, api.MaxTime, "e", "z"), nil, api.Frame{Time: api.MaxTime, Parts: []string{"y", "z"}}},
	} {
		got, f, whole, e := frame.Add(k.b, k.x)
		if e != api.OK || !slices.Equal(got.Open, k.open) || !sameFrame(f, k.want) || whole != (len(k.want.Parts) > 0) {
			t.Errorf("%s: Add is %+v %+v %v %d, want %+v %+v OK", k.name, got, f, whole, e, k.open, k.want)
		}
	}
}

func TestD2AllOfNothing(t *testing.T) {
	for _, l := range [][]api.Slot{nil, {}} {
		if got, e := frame.All(l); len(got) != 0 || e != api.OK {
			t.Errorf("All of nothing is %+v %d", got, e)
		}
	}
}

func TestD2AllHasAtMostAHundredSlots(t *testing.T) {
	var l []api.Slot
	for i := range 101 {
		l = append(l, at(70000+i, 5, "fe", "a"))
	}
	if got, e := frame.All(l[:100]); len(got) != 100 || e != api.OK {
		t.Errorf("All of 100 slots is %d frames, %d", len(got), e)
	}
	if got, e := frame.All(l); len(got) != 0 || e != api.ErrMany {
		t.Errorf("All of 101 slots is %d frames, %d, want ErrMany", len(got), e)
	}
	if got, e := frame.All(make([]api.Slot, 101)); len(got) != 0 || e != api.ErrMany {
		t.Errorf("All of 101 wrong slots is %d frames, %d, want ErrMany", len(got), e)
	}
}

func TestD2AllTellsTheFirstError(t *testing.T) {
	for _, c := range badSlots {
		for _, d := range badSlots {
			l := []api.Slot{at(70000, 5, "fe", "a"), at(70001, 5, "f", "b"), c.x, at(70002, 5, "fe", "c"), d.x}
			if got, e := frame.All(l); len(got) != 0 || e != c.want {
				t.Errorf("All of %+v is %+v %d, want nothing and %d", l, got, e, c.want)
			}
		}
	}
}

// wholeFrames told another way: one for each End, if the slots from the last First on came one behind the other, at most four of one time.
func wholeFrames(l []api.Slot) []api.Frame {
	var all []api.Frame
	for end, x := range l {
		if !x.P.End {
			continue
		}
		first := end
		for first >= 0 && !l[first].P.First {
			first--
		}
		if first < 0 || end-first >= 4 {
			continue
		}
		f := api.Frame{Time: l[first].P.Time, Key: l[first].P.Key}
		whole := true
		for i := first; i <= end; i++ {
			whole = whole && l[i].N-l[first].N == i-first && l[i].P.Time == f.Time && l[i].P.End == (i == end)
			f.Parts = append(f.Parts, l[i].P.Text)
		}
		if whole {
			all = append(all, f)
		}
	}
	return all
}

// checkWhole holds All, and Add one by one, against what D3 says.
func checkWhole(t *testing.T, l []api.Slot) {
	want := wholeFrames(l)
	got, e := frame.All(l)
	if e != api.OK || !slices.EqualFunc(got, want, sameFrame) {
		t.Fatalf("All of %+v is %+v %d, want %+v", l, got, e, want)
	}
	var b api.Builder
	for _, x := range l {
		c, f, whole, e := frame.Add(b, x)
		if e != api.OK || whole && len(want) == 0 {
			t.Fatalf("Add of %+v to %+v is %+v %v %d", x, b, f, whole, e)
		}
		if whole && (!sameFrame(f, want[0]) || frame.Check(f) != api.OK) {
			t.Fatalf("Add of %+v to %+v is %+v, want %+v", x, b, f, want[0])
		}
		if whole {
			want = want[1:]
		} else if !sameFrame(f, api.Frame{}) {
			t.Fatalf("Add of %+v to %+v has no frame, and tells %+v", x, b, f)
		}
		b = c
	}
	if len(want) > 0 {
		t.Fatalf("Add of %+v: %+v did not come", l, want)
	}
}

// TestD3EverySequence: all ways in which five slots may be First, End, follow, leave a number out, or have another time.
func TestD3EverySequence(t *testing.T) {
	flags := []string{"", "f", "e", "fe"}
	for way := range 12 * 12 * 12 * 12 * 12 {
		l := make([]api.Slot, 5)
		n, time := 131070, 5
		for i := range l {
			how := flags[way%4]
			if i%2 == 0 && how != "" && how[0] == 'f' {
				how += "k"
			}
			switch way / 4 % 3 {
			case 1:
				n++
			case 2:
				time++
			}
			n++
			l[i] = at(n, time, how, string([]byte{'a' + byte(i)}))
			way /= 12
		}
		checkWhole(t, l)
	}
}

// drawn: numbers below n, the same each time.
type drawn uint64

func (d *drawn) below(n int) int {
	*d = *d*6364136223846793005 + 1442695040888963407
	return int(uint64(*d)>>33) % n
}

func TestD3LongSequences(t *testing.T) {
	var d drawn
	flags := []string{"", "", "", "f", "fk", "e", "e", "fe", "fek"}
	for range 2000 {
		var l []api.Slot
		n, time := 131000, 5
		for i := range 100 {
			n++
			if d.below(12) == 0 {
				n += d.below(5) - 2
			}
			if d.below(12) == 0 {
				time = d.below(9)
			}
			l = append(l, at(n, time, flags[d.below(len(flags))], string([]byte{byte(i)})))
		}
		checkWhole(t, l)
	}
}

func TestP2WhatIsHandedInIsOnlyRead(t *testing.T) {
	for _, x := range []api.Slot{at(70002, 5, "", "c"), at(70002, 5, "e", "c"), at(70002, 5, "f", "c"), at(70009, 5, "", "c")} {
		spare := []api.Slot{at(70000, 5, "f", "a"), at(70001, 5, "", "b"), at(70002, 5, "", "spare"), at(70003, 5, "", "spare")}
		was := slices.Clone(spare)
		frame.Add(api.Builder{Open: spare[:2]}, x)
		frame.All(spare[:2])
		if !slices.Equal(spare, was) {
			t.Errorf("Add of %+v: what was handed in is %+v, was %+v", x, spare, was)
		}
	}
	parts := []string{"a", "b", "spare"}
	frame.Check(api.Frame{Parts: parts[:2]})
	if !slices.Equal(parts, []string{"a", "b", "spare"}) {
		t.Errorf("Check: what was handed in is %q", parts)
	}
}

func TestP2AnswersAreNewMemory(t *testing.T) {
	l := []api.Slot{at(70000, 5, "f", "a"), at(70001, 5, "", "b")}
	b, _, _, _ := frame.Add(api.Builder{Open: l}, at(70002, 5, "", "c"))
	l[0].P.Text, l[1].N = "x", 1
	if b.Open[0].P.Text != "a" || b.Open[1].N != 70001 {
		t.Error("a later change of what was handed in is seen")
	}
}

func TestP2NoTwoListsShareMemory(t *testing.T) {
	l := []api.Slot{at(70000, 5, "f", "a"), at(70001, 5, "e", "b"), at(70002, 6, "f", "c"), at(70003, 6, "", "d"), at(70004, 6, "e", "e"), at(70005, 7, "fe", "f")}
	all, _ := frame.All(l)
	if len(all) != 3 {
		t.Fatalf("All is %+v", all)
	}
	for i := range all {
		for range 4 {
			all[i].Parts = append(all[i].Parts, "more")
		}
	}
	if !slices.Equal(all[0].Parts[:2], []string{"a", "b"}) || !slices.Equal(all[1].Parts[:3], []string{"c", "d", "e"}) || all[2].Parts[0] != "f" {
		t.Errorf("parts of frames share memory: %+v", all)
	}
}

func TestP2TextsAreNewMemory(t *testing.T) {
	a, b := at(70000, 5, "f", string([]byte("one"))), at(70001, 5, "e", string([]byte("two")))
	_, f, _, _ := frame.Add(open(a), b)
	all, _ := frame.All([]api.Slot{a, b})
	for _, g := range append(all, f) {
		if len(g.Parts) != 2 || unsafe.StringData(g.Parts[0]) == unsafe.StringData(a.P.Text) || unsafe.StringData(g.Parts[1]) == unsafe.StringData(b.P.Text) {
			t.Errorf("parts of %+v share memory with what was handed in", g)
		}
	}
}

func TestP3AnswersAreTheSameAgain(t *testing.T) {
	b := open(at(70000, 5, "fk", "a"))
	for range 3 {
		for _, c := range badBuilders {
			frame.Add(c.b, at(70001, 5, "e", ""))
			frame.All(c.b.Open)
		}
		got, f, whole, e := frame.Add(b, at(70001, 5, "e", "b"))
		if e != api.OK || !whole || len(got.Open) != 0 || !sameFrame(f, api.Frame{Time: 5, Key: true, Parts: []string{"a", "b"}}) {
			t.Errorf("Add is %+v %+v %v %d", got, f, whole, e)
		}
	}
}
