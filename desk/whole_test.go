package desk_test

import (
	"slices"
	"testing"

	"switchback/api"
	"switchback/buffer"
	"switchback/count"
	"switchback/cursor"
	"switchback/desk"
	"switchback/disk"
	"switchback/frame"
	"switchback/group"
	"switchback/out"
	"switchback/pace"
	"switchback/store"
	"switchback/track"
	"switchback/wire"
)

// These tests are of the section 'What the whole promises': what comes of one layer goes into the next.

// streams of packets, as they come in; do is told what they were, too.
func streams(do func(s *source, came []api.Packet)) {
	var d drawn
	for round := range 60 {
		s := source{drawn: drawn(d.below(1000000)), n: 65400 + d.below(200), steady: round%2 == 0}
		var came []api.Packet
		for range 90 {
			came = append(came, s.next())
		}
		do(&s, came)
	}
}

// inOrder: packets that came, with their numbers, as the buffer lets them out.
func inOrder(t *testing.T, came []api.Packet) []api.Slot {
	var b api.Buffer
	var all []api.Slot
	last := came[0].Seq + api.MinN
	for _, p := range came {
		n, e := count.Unwrap(last, p.Seq)
		if e != api.OK {
			continue // it is of a round ahead of the first one
		}
		last = max(last, n)
		var turns []api.Slot
		if b, turns, e = buffer.Put(b, api.Slot{N: n, P: p}); e != api.OK {
			t.Fatal(e)
		}
		all = append(all, turns...)
	}
	_, turns, e := buffer.Flush(b)
	if e != api.OK {
		t.Fatal(e)
	}
	return append(all, turns...)
}

// pictures of packets that came.
func pictures(t *testing.T, came []api.Packet) []api.Frame {
	l, e := frame.All(inOrder(t, came))
	if e != api.OK {
		t.Fatal(e)
	}
	return l
}

func TestWholeWhatIsEncodedIsDecodedAsItWas(t *testing.T) {
	streams(func(_ *source, came []api.Packet) {
		for _, p := range came {
			bytes, e := wire.Encode(p)
			if got, f := wire.Decode(bytes); e != api.OK || f != api.OK || got != p {
				t.Fatalf("%+v is %x, and that is %+v %d", p, bytes, got, f)
			}
		}
	})
}

// TestWholeNothingElseIsDecoded: whatever is decoded is just what its packet is encoded to.
func TestWholeNothingElseIsDecoded(t *testing.T) {
	right := feed(packet(258, 66051, "fek", "text")).Text
	tried := []string{"", right + "x", right + right}
	for i := range right {
		tried = append(tried, right[:i])
		for b := range 256 {
			tried = append(tried, right[:i]+string([]byte{byte(b)})+right[i+1:])
		}
	}
	for _, s := range tried {
		if p, e := wire.Decode(s); e == api.OK {
			if again, f := wire.Encode(p); f != api.OK || again != s {
				t.Errorf("%x is decoded as %+v, which is %x %d", s, p, again, f)
			}
		}
	}
}

func TestWholeNumbersThatGoRoundAreFound(t *testing.T) {
	var d drawn
	for range 100 {
		first := 5*65536 + d.below(65536)
		n := first
		var were, rounds []int
		for range 100 {
			n = max(api.MinN, n+d.below(2*32767+1)-32767)
			seq, _ := count.Wrap(n)
			were, rounds = append(were, n), append(rounds, seq)
		}
		if got, e := count.All(first, rounds); e != api.OK || !slices.Equal(got, were) {
			t.Fatalf("numbers are found as %v %d, were %v", got, e, were)
		}
	}
}

func TestWholeNumbersThatGoOutRise(t *testing.T) {
	streams(func(_ *source, came []api.Packet) {
		last := 0
		for _, x := range inOrder(t, came) {
			if x.N <= last || !slices.Contains(came, x.P) {
				t.Fatalf("%+v goes out behind %d", x, last)
			}
			last = x.N
		}
	})
}

func TestWholeAFrameIsWhole(t *testing.T) {
	streams(func(s *source, came []api.Packet) {
		for _, f := range pictures(t, came) {
			n := len(f.Parts)
			first, last := s.fed[f.Parts[0]], s.fed[f.Parts[n-1]]
			if !first.First || !last.End || last.Seq != (first.Seq+n-1)%65536 || first.Time != f.Time || first.Key != f.Key {
				t.Fatalf("%+v is from %+v to %+v", f, first, last)
			}
		}
	})
}

func TestWholeEachGroupCanBeShownByItself(t *testing.T) {
	streams(func(_ *source, came []api.Packet) {
		l, open, e := group.All(pictures(t, came))
		if e != api.OK || len(l) == 0 {
			t.Fatalf("groups are %+v %d", l, e)
		}
		for _, g := range append(l, open) {
			if !g.Frames[0].Key || slices.ContainsFunc(g.Frames[1:], func(f api.Frame) bool { return f.Key }) || group.Check(g) != api.OK {
				t.Fatalf("a group is %+v", g)
			}
		}
	})
}

func TestWholeWhatWasStoredStays(t *testing.T) {
	streams(func(_ *source, came []api.Packet) {
		var s api.Store
		known := map[int]string{}
		for _, f := range pictures(t, came) {
			var e api.Errno
			if s, _, e = store.Add(s, f); e != api.OK {
				t.Fatal(e)
			}
			for i, g := range s.Groups {
				n := s.First + i
				if known[n] == "" {
					known[n] = told(g)
				}
				if got, e := store.Get(s, n); e != api.OK || told(got) != known[n] {
					t.Fatalf("group %d is %+v %d, was %s", n, got, e, known[n])
				}
			}
		}
		if newest := s.First + len(s.Groups); len(known) != newest {
			t.Fatalf("%d groups were stored, the open one is %d", len(known), newest)
		}
	})
}

// TestWholeWhatIsSyncedIsThereBehindACrash: of four groups the first ones are Synced; whatever else stays of the bytes, they are there, and no part of another.
func TestWholeWhatIsSyncedIsThereBehindACrash(t *testing.T) {
	streams(func(_ *source, came []api.Packet) {
		l, _, _ := group.All(pictures(t, came))
		l = l[:min(4, len(l))]
		var d api.Disk
		for i, g := range l {
			d, _ = disk.Append(d, 7+i, g)
			if i < 2 {
				d, _ = disk.Sync(d)
			}
		}
		for keep := range len(d.Data) - d.Synced + 2 {
			left, e := disk.Crash(d, keep)
			s, _, f := disk.Open(left)
			// A store may have let the first ones go, which are too many bytes with those behind them.
			gone := s.First - 7
			there := gone + len(s.Groups)
			if e != api.OK || f != api.OK || there < min(2, len(l)) || told(s.Groups) != told(l[gone:there]) {
				t.Fatalf("behind a crash there is %+v %d %d, was %+v", s, e, f, l)
			}
		}
	})
}

func TestWholeAMediaTimeIsComeToAtItsWall(t *testing.T) {
	var d drawn
	for range 5000 {
		p := api.Pace{Wall: d.below(1000), Media: d.below(1000), Num: 1 + d.below(100), Den: 1 + d.below(100)}
		time := p.Media + d.below(3000)
		wall, e := pace.Wall(p, time)
		if got, f := pace.Media(p, wall); e != api.OK || f != api.OK || got < time {
			t.Fatalf("%+v comes to %d at %d %d, and is at %d %d then", p, time, wall, e, got, f)
		}
		if got, _ := pace.Media(p, wall-1); wall > p.Wall && got >= time {
			t.Fatalf("%+v comes to %d at %d, and is at %d ahead of that", p, time, wall, got)
		}
	}
}

// TestWholeFramesComeInOrder: of a live one, and of a replay, which are slower than the store grows, so that groups go ahead of their turn.
func TestWholeFramesComeInOrder(t *testing.T) {
	switches := 0
	streams(func(_ *source, came []api.Packet) {
		var s api.Store
		l := pictures(t, came)
		place := func(f api.Frame) int {
			return slices.IndexFunc(l, func(x api.Frame) bool { return x.Parts[0] == f.Parts[0] })
		}
		for _, mode := range []int{api.Live, api.Replay} {
			c := api.Cursor{Mode: mode}
			last := -1
			for i, f := range l {
				s, _, _ = store.Add(s, f)
				if i%3 == 0 {
					continue
				}
				next, f, has, switched, e := cursor.Next(s, c, api.MaxTime)
				if e != api.OK || has && place(f) <= last || switched && !f.Key {
					t.Fatalf("%+v comes at %+v, behind %d: %d", f, next, last, e)
				}
				if c = next; has {
					last = place(f)
				}
				if switched {
					switches++
				}
			}
			s = api.Store{}
		}
	})
	if switches < 20 {
		t.Errorf("%d switches alone", switches)
	}
}

func TestWholeNumbersGoOnTimesNeverGoBack(t *testing.T) {
	ran := 0
	streams(func(s *source, came []api.Packet) {
		var o api.Out
		var sent []api.Packet
		for _, f := range pictures(t, came) {
			next, l, e := out.Send(o, f, f.Key && s.below(3) == 0)
			if e == api.OK {
				o, sent = next, append(sent, l...)
			}
		}
		wantOneStream(t, sent)
		script := []api.Act{}
		for _, p := range came[:40] {
			if script = append(script, feed(p)); len(script)%6 == 0 {
				script = append(script, []api.Act{live, seek(s.time / 2)}[s.below(2)], send(s.time))
			}
		}
		_, _, sent, _, e := desk.Run(script)
		if e != api.OK {
			t.Fatal(e)
		}
		wantOneStream(t, sent)
		ran += len(sent)
	})
	if ran < 500 {
		t.Errorf("scripts sent %d packets alone", ran)
	}
}

// TestWholeWhatIsStoredIsWhatWasFed: a track, fed and drained, has what comes of all layers ahead of it, one behind the other.
func TestWholeWhatIsStoredIsWhatWasFed(t *testing.T) {
	streams(func(_ *source, came []api.Packet) {
		var x api.Track
		var s api.Store
		for _, p := range came {
			if got, _, e := track.Feed(x, feed(p).Text); e == api.OK {
				x = got
			}
		}
		x, _, _ = track.Drain(x)
		for _, f := range pictures(t, came) {
			s, _, _ = store.Add(s, f)
		}
		if told(x.Store) != told(s) || s.First+len(s.Groups) == 0 {
			t.Fatalf("what is stored is\n%+v, want\n%+v", x.Store, s)
		}
	})
}
