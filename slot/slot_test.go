package slot_test

import (
	"math"
	"slices"
	"testing"
	"unsafe"

	"switchback/api"
	"switchback/slot"
)

// at a number: a packet with the Seq that belongs there.
func at(n int, text string) api.Slot {
	return api.Slot{N: n, P: api.Packet{Seq: n % 65536, Text: text}}
}

func TestC1SlotIsRight(t *testing.T) {
	for _, n := range []int{api.MinN, api.MinN + 1, 70000, 131071, 131072, 131073, api.MaxN - 1, api.MaxN} {
		for _, p := range []api.Packet{{}, {Time: api.MaxTime}, {First: true, Key: true}, {End: true, Text: "12345678"}} {
			p.Seq = n % 65536
			if e := slot.Check(api.Slot{N: n, P: p}); e != api.OK {
				t.Errorf("Check of %d %+v is %d, want OK", n, p, e)
			}
		}
	}
}

func TestC1SlotIsNotRight(t *testing.T) {
	long := "123456789"
	for _, c := range []struct {
		name string
		x    api.Slot
		want api.Errno
	}{
		{"nothing", api.Slot{}, api.ErrRange},
		{"N below MinN", at(api.MinN-1, ""), api.ErrRange},
		{"N above MaxN", at(api.MaxN+1, ""), api.ErrRange},
		{"N below 0", api.Slot{N: -1}, api.ErrRange},
		{"least N", api.Slot{N: math.MinInt}, api.ErrRange},
		{"greatest N", api.Slot{N: math.MaxInt}, api.ErrRange},
		{"Seq below 0", api.Slot{N: 70000, P: api.Packet{Seq: 70000%65536 - 65536}}, api.ErrRange},
		{"Seq that does not go round", api.Slot{N: 70000, P: api.Packet{Seq: 70000}}, api.ErrRange},
		{"Time below 0", api.Slot{N: 70000, P: api.Packet{Seq: 4464, Time: -1}}, api.ErrRange},
		{"Time above MaxTime", api.Slot{N: 70000, P: api.Packet{Seq: 4464, Time: api.MaxTime + 1}}, api.ErrRange},
		{"Text too long", at(70000, long), api.ErrMany},
		{"Key, not First", api.Slot{N: 70000, P: api.Packet{Seq: 4464, Key: true}}, api.ErrState},
		{"Seq of the number behind", api.Slot{N: 70000, P: api.Packet{Seq: 4465}}, api.ErrState},
		{"Seq of the number ahead", api.Slot{N: 70000, P: api.Packet{Seq: 4463}}, api.ErrState},
		{"Seq 0 for a number that is not", api.Slot{N: 70000}, api.ErrState},
		{"N ahead of Text", at(api.MinN-1, long), api.ErrRange},
		{"N ahead of Key", api.Slot{N: api.MaxN + 1, P: api.Packet{Key: true}}, api.ErrRange},
		{"packet ahead of Seq", api.Slot{N: 70000, P: api.Packet{Seq: 1, Text: long}}, api.ErrMany},
		{"Time ahead of Seq", api.Slot{N: 70000, P: api.Packet{Seq: 1, Time: -1}}, api.ErrRange},
	} {
		if got := slot.Check(c.x); got != c.want {
			t.Errorf("%s: Check is %d, want %d", c.name, got, c.want)
		}
	}
}

func TestC1OneByOneTheFirstErrorTells(t *testing.T) {
	good, long, wrong := at(70000, ""), at(70000, "123456789"), api.Slot{N: 70000}
	for _, c := range []struct {
		l     []api.Slot
		unfit int // the place at which a slot does not fit
		want  api.Errno
	}{
		{nil, 0, api.OK},
		{[]api.Slot{good, good}, 2, api.OK},
		{[]api.Slot{good, long, wrong}, 3, api.ErrMany},
		{[]api.Slot{good, wrong, long}, 3, api.ErrState},
		{[]api.Slot{good, wrong, {}}, 3, api.ErrState},
		{[]api.Slot{{}, wrong, long}, 3, api.ErrRange},
		{[]api.Slot{good}, 0, api.ErrState},
		{[]api.Slot{good, good}, 1, api.ErrState},
		{[]api.Slot{good, long}, 0, api.ErrState},
		{[]api.Slot{good, good, {}}, 1, api.ErrState},
		{[]api.Slot{good, long}, 1, api.ErrMany},
		{[]api.Slot{good, {}, long}, 1, api.ErrRange},
		{[]api.Slot{long, good}, 1, api.ErrMany},
		{[]api.Slot{{}, good, long}, 1, api.ErrRange},
	} {
		if got := slot.CheckAll(c.l, func(i int) bool { return i != c.unfit }); got != c.want {
			t.Errorf("CheckAll of %+v, unfit at %d, is %d, want %d", c.l, c.unfit, got, c.want)
		}
	}
}

func TestP2CopiesShareNothing(t *testing.T) {
	l := []api.Slot{at(70000, string([]byte("ab"))), at(70001, "")}
	m := slot.CopyAll(l)
	if !slices.Equal(l, m) {
		t.Fatalf("CopyAll of %+v is %+v", l, m)
	}
	if &l[0] == &m[0] || unsafe.StringData(l[0].P.Text) == unsafe.StringData(m[0].P.Text) {
		t.Error("the copies share memory with what was copied")
	}
	if got := slot.CopyAll(nil); len(got) != 0 {
		t.Errorf("CopyAll of nothing is %+v", got)
	}
}
