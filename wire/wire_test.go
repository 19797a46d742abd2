package wire_test

import (
	"math"
	"strings"
	"testing"
	"unsafe"

	"switchback/api"
	"switchback/wire"
)

// badPackets: each with the error that A1 asks for.
var badPackets = []struct {
	name string
	p    api.Packet
	want api.Errno
}{
	{"Seq below 0", api.Packet{Seq: -1}, api.ErrRange},
	{"Seq above MaxSeq", api.Packet{Seq: api.MaxSeq + 1}, api.ErrRange},
	{"least Seq", api.Packet{Seq: math.MinInt}, api.ErrRange},
	{"greatest Seq", api.Packet{Seq: math.MaxInt}, api.ErrRange},
	{"Time below 0", api.Packet{Time: -1}, api.ErrRange},
	{"Time above MaxTime", api.Packet{Time: api.MaxTime + 1}, api.ErrRange},
	{"least Time", api.Packet{Time: math.MinInt}, api.ErrRange},
	{"greatest Time", api.Packet{Time: math.MaxInt}, api.ErrRange},
	{"Text of one byte too many", api.Packet{Text: "123456789"}, api.ErrMany},
	{"Text of 256 bytes", api.Packet{Text: strings.Repeat("x", 256)}, api.ErrMany},
	{"long Text of few runes", api.Packet{Text: "éééée"}, api.ErrMany},
	{"Key, not First", api.Packet{Key: true}, api.ErrState},
	{"Key and End, not First", api.Packet{Key: true, End: true}, api.ErrState},
	{"Seq ahead of Text", api.Packet{Seq: -1, Text: "123456789"}, api.ErrRange},
	{"Time ahead of Text", api.Packet{Time: -1, Text: "123456789"}, api.ErrRange},
	{"Seq ahead of Key", api.Packet{Seq: api.MaxSeq + 1, Key: true}, api.ErrRange},
	{"Time ahead of Key", api.Packet{Time: api.MaxTime + 1, Key: true}, api.ErrRange},
	{"Text ahead of Key", api.Packet{Text: "123456789", Key: true}, api.ErrMany},
	{"all at once", api.Packet{Seq: -1, Time: -1, Text: "123456789", Key: true}, api.ErrRange},
}

// goodPackets: every kind of flags with the edges of the numbers and of the text.
func goodPackets() []api.Packet {
	var all []api.Packet
	for _, seq := range []int{0, 1, 255, 256, 258, 32768, api.MaxSeq - 1, api.MaxSeq} {
		for _, time := range []int{0, 1, 255, 256, 65535, 65536, 66051, api.MaxTime - 1, api.MaxTime} {
			for _, text := range []string{"", "a", "\x00\xff", "1234567", "12345678", "éééé", "\x80\x00\x00\x00\x00\x00\x00\x00"} {
				for _, f := range []api.Packet{{}, {First: true}, {End: true}, {First: true, End: true}, {First: true, Key: true}, {First: true, End: true, Key: true}} {
					f.Seq, f.Time, f.Text = seq, time, text
					all = append(all, f)
				}
			}
		}
	}
	return all
}

func TestA1CheckTellsWhatIsWrong(t *testing.T) {
	for _, c := range badPackets {
		if got := wire.Check(c.p); got != c.want {
			t.Errorf("%s: Check is %d, want %d", c.name, got, c.want)
		}
	}
}

func TestA1CheckTakesWhatIsRight(t *testing.T) {
	for _, p := range goodPackets() {
		if got := wire.Check(p); got != api.OK {
			t.Errorf("Check of %+v is %d, want OK", p, got)
		}
	}
}

func TestA2EncodeBytes(t *testing.T) {
	for _, c := range []struct {
		p    api.Packet
		want string
	}{
		{api.Packet{}, "\x80\x00\x00\x00\x00\x00\x00\x00"},
		{api.Packet{First: true}, "\x81\x00\x00\x00\x00\x00\x00\x00"},
		{api.Packet{End: true}, "\x82\x00\x00\x00\x00\x00\x00\x00"},
		{api.Packet{First: true, End: true}, "\x83\x00\x00\x00\x00\x00\x00\x00"},
		{api.Packet{First: true, Key: true}, "\x85\x00\x00\x00\x00\x00\x00\x00"},
		{api.Packet{First: true, End: true, Key: true}, "\x87\x00\x00\x00\x00\x00\x00\x00"},
		{api.Packet{Seq: 0x0102, Time: 0x030405, Text: "ab"}, "\x80\x01\x02\x00\x03\x04\x05\x02ab"},
		{api.Packet{Seq: api.MaxSeq, Time: api.MaxTime, Text: "12345678"}, "\x80\xff\xff\x00\x0f\x42\x40\x0812345678"},
		{api.Packet{Text: "\x00\xff\n"}, "\x80\x00\x00\x00\x00\x00\x00\x03\x00\xff\n"},
	} {
		got, e := wire.Encode(c.p)
		if got != c.want || e != api.OK {
			t.Errorf("Encode of %+v is %x %d, want %x OK", c.p, got, e, c.want)
		}
	}
}

func TestA2EncodeErrorsAreChecks(t *testing.T) {
	for _, c := range badPackets {
		got, e := wire.Encode(c.p)
		if got != "" || e != c.want {
			t.Errorf("%s: Encode is %x %d, want nothing and %d", c.name, got, e, c.want)
		}
	}
}

func wantDecode(t *testing.T, s string, want api.Packet, wantErr api.Errno) {
	t.Helper()
	got, e := wire.Decode(s)
	if got != want || e != wantErr {
		t.Errorf("Decode of %x is %+v %d, want %+v %d", s, got, e, want, wantErr)
	}
}

func TestA2DecodeBytes(t *testing.T) {
	wantDecode(t, "\x80\x00\x00\x00\x00\x00\x00\x00", api.Packet{}, api.OK)
	wantDecode(t, "\x85\x01\x02\x00\x03\x04\x05\x02ab", api.Packet{Seq: 0x0102, Time: 0x030405, First: true, Key: true, Text: "ab"}, api.OK)
	wantDecode(t, "\x82\xff\xff\x00\x0f\x42\x40\x0812345678", api.Packet{Seq: api.MaxSeq, Time: api.MaxTime, End: true, Text: "12345678"}, api.OK)
}

func TestA2DecodeTooFewBytes(t *testing.T) {
	for _, whole := range []string{"\x80\x00\x00\x00\x00\x00\x00\x00", "\x87\x01\x02\x00\x03\x04\x05\x0812345678", "\x80\x00\x00\x00\x00\x00\x00\xff" + strings.Repeat("x", 255)} {
		for n := range len(whole) {
			wantDecode(t, whole[:n], api.Packet{}, api.ErrForm)
		}
	}
	wantDecode(t, strings.Repeat("\x80", 8), api.Packet{}, api.ErrForm)
	wantDecode(t, strings.Repeat("\xff", 8), api.Packet{}, api.ErrForm)
}

func TestA2DecodeTooManyBytes(t *testing.T) {
	wantDecode(t, "\x80\x00\x00\x00\x00\x00\x00\x00\x00", api.Packet{}, api.ErrForm)
	wantDecode(t, "\x80\x00\x00\x00\x00\x00\x00\x01ab", api.Packet{}, api.ErrForm)
	whole := "\x80\x00\x00\x00\x00\x00\x00\x02ab"
	wantDecode(t, whole+whole, api.Packet{}, api.ErrForm)
	wantDecode(t, whole+strings.Repeat("\x00", 100000), api.Packet{}, api.ErrForm)
}

func TestA2DecodeFirstByte(t *testing.T) {
	for head := range 256 {
		p, e := wire.Decode(string([]byte{byte(head), 0, 1, 0, 0, 0, 2, 0}))
		want, wantErr := api.Packet{}, api.ErrForm
		switch head {
		case 128, 129, 130, 131, 133, 135:
			want = api.Packet{Seq: 1, Time: 2, First: head%2 == 1, End: head/2%2 == 1, Key: head >= 132}
			wantErr = api.OK
		case 132, 134:
			wantErr = api.ErrState
		}
		if p != want || e != wantErr {
			t.Errorf("first byte %d: Decode is %+v %d, want %+v %d", head, p, e, want, wantErr)
		}
	}
}

func TestA2DecodeErrorsOfCheck(t *testing.T) {
	nine, most := "\x09123456789", "\xff"+strings.Repeat("x", 255)
	wantDecode(t, "\x80\x00\x00\x00\x0f\x42\x41\x00", api.Packet{}, api.ErrRange)
	wantDecode(t, "\x80\x00\x00\x01\x00\x00\x00\x00", api.Packet{}, api.ErrRange)
	wantDecode(t, "\x80\x00\x00\x80\x00\x00\x00\x00", api.Packet{}, api.ErrRange)
	wantDecode(t, "\x80\x00\x00\xff\xff\xff\xff\x00", api.Packet{}, api.ErrRange)
	wantDecode(t, "\x80\x00\x00\x00\x00\x00\x00"+nine, api.Packet{}, api.ErrMany)
	wantDecode(t, "\x80\x00\x00\x00\x00\x00\x00"+most, api.Packet{}, api.ErrMany)
	wantDecode(t, "\x84\x00\x00\x00\x00\x00\x00\x00", api.Packet{}, api.ErrState)
	wantDecode(t, "\x84\x00\x00\x00\x0f\x42\x41"+nine, api.Packet{}, api.ErrRange)
	wantDecode(t, "\x84\x00\x00\x00\x00\x00\x00"+nine, api.Packet{}, api.ErrMany)
}

func TestA2DecodeFormComesFirst(t *testing.T) {
	wantDecode(t, "\x84\x00\x00\xff\xff\xff\xff\x0912345678", api.Packet{}, api.ErrForm)
	wantDecode(t, "\x84\x00\x00\xff\xff\xff\xff\x091234567890", api.Packet{}, api.ErrForm)
	wantDecode(t, "\x88\x00\x00\xff\xff\xff\xff\x09123456789", api.Packet{}, api.ErrForm)
	wantDecode(t, "\x7f\x00\x00\xff\xff\xff\xff\x09123456789", api.Packet{}, api.ErrForm)
}

func TestA3EncodedIsDecodedAsItWas(t *testing.T) {
	for _, p := range goodPackets() {
		s, e := wire.Encode(p)
		if e != api.OK {
			t.Fatalf("Encode of %+v is %d, want OK", p, e)
		}
		wantDecode(t, s, p, api.OK)
	}
}

// changed: texts that are one byte away from s, or have one byte more or less.
func changed(s string) []string {
	var all []string
	for i := range len(s) {
		all = append(all, s[:i]+s[i+1:])
		for _, c := range []byte{0, 1, 2, 7, 8, 9, 15, 16, 66, 127, 128, 132, 135, 136, 255} {
			all = append(all, s[:i]+string([]byte{c})+s[i+1:], s[:i]+string([]byte{c})+s[i:])
		}
	}
	return all
}

func TestA3NothingElseIsDecoded(t *testing.T) {
	taken := 0
	for _, p := range []api.Packet{{}, {Seq: 5, Time: 9, First: true, Text: "ab"}, {Seq: api.MaxSeq, Time: api.MaxTime, First: true, End: true, Key: true, Text: "12345678"}} {
		s, _ := wire.Encode(p)
		for _, once := range changed(s) {
			for _, x := range append(changed(once), once) {
				q, e := wire.Decode(x)
				if e != api.OK {
					if q != (api.Packet{}) {
						t.Fatalf("Decode of %x is %+v with error %d, want nothing", x, q, e)
					}
					continue
				}
				taken++
				if back, f := wire.Encode(q); back != x || f != api.OK {
					t.Fatalf("Decode of %x is %+v, whose Encode is %x %d", x, q, back, f)
				}
			}
		}
	}
	if taken == 0 {
		t.Error("no changed text was decoded: the test says nothing")
	}
}

// drawn: numbers below n, the same each time.
type drawn uint64

func (d *drawn) below(n int) int {
	*d = *d*6364136223846793005 + 1442695040888963407
	return int(uint64(*d)>>33) % n
}

// TestP1NoneEndsInPanic: drawn bytes, half of which begin as a packet does.
func TestP1NoneEndsInPanic(t *testing.T) {
	var d drawn
	for range 20000 {
		b := make([]byte, d.below(24))
		for i := range b {
			b[i] = byte(d.below(256))
		}
		if len(b) > 0 && d.below(2) == 0 {
			b[0] = 128 + b[0]%8
		}
		p, e := wire.Decode(string(b))
		if e < api.OK || e > api.ErrKind || e != api.OK && p != (api.Packet{}) {
			t.Fatalf("Decode of %x is %+v %d", b, p, e)
		}
	}
}

func TestP2AnswersAreNewMemory(t *testing.T) {
	s := string([]byte("\x80\x00\x00\x00\x00\x00\x00\x0812345678"))
	p, e := wire.Decode(s)
	if e != api.OK {
		t.Fatalf("Decode is %d, want OK", e)
	}
	from := uintptr(unsafe.Pointer(unsafe.StringData(s)))
	text := uintptr(unsafe.Pointer(unsafe.StringData(p.Text)))
	if text >= from && text < from+uintptr(len(s)) {
		t.Error("the packet's Text shares memory with what was decoded")
	}
}

func TestP3AnswersAreTheSameAgain(t *testing.T) {
	p := api.Packet{Seq: 7, Time: 8, First: true, Text: "ab"}
	s, _ := wire.Encode(p)
	for range 3 {
		for _, c := range badPackets {
			wire.Check(c.p)
			wire.Encode(c.p)
		}
		for n := range len(s) {
			wire.Decode(s[:n])
		}
		if again, e := wire.Encode(p); again != s || e != api.OK {
			t.Errorf("Encode is %x %d, was %x OK", again, e, s)
		}
		wantDecode(t, s, p, api.OK)
	}
}
