package disk_test

import (
	"encoding/binary"
	"math"
	"slices"
	"strings"
	"testing"
	"unsafe"

	"switchback/api"
	"switchback/disk"
	"switchback/group"
	"switchback/store"
)

const long = "123456789"

// key begins a group, pic goes on with it.
func key(time int, parts ...string) api.Frame { return api.Frame{Time: time, Key: true, Parts: parts} }
func pic(time int, parts ...string) api.Frame { return api.Frame{Time: time, Parts: parts} }

func of(l ...api.Frame) api.Group { return api.Group{Frames: l} }

// at a time: a group of one frame, whose record has 14 bytes.
func at(time int) api.Group { return of(key(time, "a")) }

// greatest: a group whose record has 253 bytes.
func greatest() api.Group {
	parts := slices.Repeat([]string{"12345678"}, 4)
	return of(append([]api.Frame{key(0, parts...)}, slices.Repeat([]api.Frame{pic(api.MaxTime, parts...)}, 5)...)...)
}

func sameGroup(a, b api.Group) bool {
	return slices.EqualFunc(a.Frames, b.Frames, func(a, b api.Frame) bool {
		return a.Time == b.Time && a.Key == b.Key && slices.Equal(a.Parts, b.Parts)
	})
}

func same(a, b api.Store) bool {
	return a.First == b.First && slices.EqualFunc(a.Groups, b.Groups, sameGroup) && sameGroup(a.Open, b.Open)
}

// bytesOf a group and its number, right or not, told by the library's means.
func bytesOf(n int, g api.Group) string {
	b := binary.BigEndian.AppendUint32(nil, uint32(n))
	b = append(b, byte(len(g.Frames)))
	for _, f := range g.Frames {
		b = append(binary.BigEndian.AppendUint32(b, uint32(f.Time)), byte(len(f.Parts)))
		for _, part := range f.Parts {
			b = append(append(b, byte(len(part))), part...)
		}
	}
	return sized(string(b))
}

// sized: bytes behind how many they are.
func sized(body string) string {
	return string(binary.BigEndian.AppendUint16(nil, uint16(len(body)))) + body
}

// allOf groups, numbered from first on, as the bytes of a disk.
func allOf(first int, l ...api.Group) string {
	s := ""
	for i, g := range l {
		s += bytesOf(first+i, g)
	}
	return s
}

var rightGroups = []api.Group{
	at(5), at(0), at(api.MaxTime), of(key(5, "")), of(key(5, "", "", "", "")), of(key(5, "a", ""), pic(9, "xyz")),
	of(key(5, "12345678"), pic(5, "\x00\xff")), of(key(258, "éé", "\n"), pic(65536, "a", "b", "c"), pic(api.MaxTime, "")), greatest(),
}

var wrongGroups = []struct {
	name string
	g    api.Group
	want api.Errno
}{
	{"no frames", of(), api.ErrNone},
	{"seven frames", of(slices.Repeat([]api.Frame{pic(5, "a")}, 7)...), api.ErrMany},
	{"it does not begin with Key", of(pic(5, "a")), api.ErrState},
	{"a second one is Key", of(key(5, "a"), key(5, "a")), api.ErrState},
	{"its time goes back", of(key(5, "a"), pic(4, "a")), api.ErrState},
	{"a time below 0", at(-1), api.ErrRange},
	{"a time above MaxTime", at(api.MaxTime + 1), api.ErrRange},
	{"the greatest time", at(math.MaxInt), api.ErrRange},
	{"a frame without parts", of(key(5, "a"), pic(5)), api.ErrNone},
	{"a frame of five parts", of(key(5, "", "", "", "", "")), api.ErrMany},
	{"a part of nine bytes", of(key(5, "a"), pic(5, long)), api.ErrMany},
	{"a part of 256 bytes", of(key(5, strings.Repeat("x", 256))), api.ErrMany},
	{"the first wrong frame tells", of(key(5, "a"), pic(4, "a"), pic(5), pic(-1, long)), api.ErrState},
}

var notNumbers = []int{math.MinInt, -1 << 32, -1, api.MaxGroup + 1, 1 << 32, math.MaxInt}

func TestG1EncodeBytes(t *testing.T) {
	for _, c := range []struct {
		n    int
		g    api.Group
		want string
	}{
		{0, at(5), "\x00\x0c" + "\x00\x00\x00\x00" + "\x01" + "\x00\x00\x00\x05" + "\x01" + "\x01a"},
		{258, of(key(66051, "")), "\x00\x0b" + "\x00\x00\x01\x02" + "\x01" + "\x00\x01\x02\x03" + "\x01" + "\x00"},
		{100000, of(key(5, "a", ""), pic(1000000, "xyz")), "\x00\x16" + "\x00\x01\x86\xa0" + "\x02" + "\x00\x00\x00\x05" + "\x02" + "\x01a" + "\x00" + "\x00\x0f\x42\x40" + "\x01" + "\x03xyz"},
	} {
		if got, e := disk.Encode(c.n, c.g); got != c.want || e != api.OK {
			t.Errorf("Encode of %d %+v is %x %d, want %x OK", c.n, c.g, got, e, c.want)
		}
	}
	if s, _ := disk.Encode(7, greatest()); len(s) != 253 || s[:2] != "\x00\xfb" {
		t.Errorf("Encode of the greatest group has %d bytes: %x", len(s), s)
	}
}

func TestG1EncodeOfRightGroups(t *testing.T) {
	for _, n := range []int{0, 1, 255, 256, 65535, 65536, api.MaxGroup - 1, api.MaxGroup} {
		for _, g := range rightGroups {
			if got, e := disk.Encode(n, g); got != bytesOf(n, g) || e != api.OK {
				t.Errorf("Encode of %d %+v is %x %d, want %x OK", n, g, got, e, bytesOf(n, g))
			}
		}
	}
}

func TestG1EncodeErrors(t *testing.T) {
	for _, c := range wrongGroups {
		for _, n := range []int{0, 7, api.MaxGroup} {
			if s, e := disk.Encode(n, c.g); s != "" || e != c.want {
				t.Errorf("%s: Encode is %x %d, want nothing and %d", c.name, s, e, c.want)
			}
		}
		for _, n := range notNumbers {
			if s, e := disk.Encode(n, c.g); s != "" || e != api.ErrRange {
				t.Errorf("%s: Encode with number %d is %x %d, want nothing and ErrRange", c.name, n, s, e)
			}
		}
	}
	for _, n := range notNumbers {
		if s, e := disk.Encode(n, at(5)); s != "" || e != api.ErrRange {
			t.Errorf("Encode with number %d is %x %d, want nothing and ErrRange", n, s, e)
		}
	}
}

// full: right records that are 2000 bytes.
func full() string {
	l := slices.Repeat([]api.Group{greatest()}, 7)
	l = append(l, slices.Repeat([]api.Group{at(5)}, 15)...)
	return allOf(100, append(l, of(key(5, "abcdef")))...)
}

// rightDisks: each with how many of its bytes are whole records.
func rightDisks() map[api.Disk]int {
	all := map[api.Disk]int{
		{}:                                   0,
		{Data: "\x00"}:                       0,
		{Data: "\xff"}:                       0,
		{Data: "\x00\x01"}:                   0,
		{Data: "\x00\x05abcd"}:               0,
		{Data: strings.Repeat("\xff", 2000)}: 0,
		{Data: allOf(api.MaxGroup, at(5))}:   14,
		{Data: allOf(api.MaxGroup-1, at(5), at(4)), Synced: 28}: 28,
		{Data: full()}:                          2000,
		{Data: full(), Synced: 2000}:            2000,
		{Data: full()[:1999]}:                   1981,
		{Data: allOf(7, at(5)) + "\xff\xffxyz"}: 14,
		// What is torn is not looked at: here its number does not go on.
		{Data: allOf(7, at(5)) + allOf(7, at(5))[:13], Synced: 14}: 14,
	}
	// Each piece of three records, Synced at each end in it.
	l := []api.Group{of(key(5, "a", ""), pic(9, "xyz")), at(3), of(key(4, "12345678"))}
	ends := []int{0, len(allOf(7, l[:1]...)), len(allOf(7, l[:2]...)), len(allOf(7, l...))}
	for n := range ends[3] + 1 {
		whole := 0
		for _, end := range ends {
			if end <= n {
				whole = end
			}
		}
		for _, end := range ends {
			if end <= n {
				all[api.Disk{Data: allOf(7, l...)[:n], Synced: end}] = whole
			}
		}
	}
	return all
}

func TestG1RightDisks(t *testing.T) {
	if len(full()) != 2000 {
		t.Fatalf("full has %d bytes", len(full()))
	}
	for d := range rightDisks() {
		if e := disk.Check(d); e != api.OK {
			t.Errorf("Check of %x %d is %d, want OK", d.Data, d.Synced, e)
		}
	}
}

type wrongDisk struct {
	name string
	d    api.Disk
	want api.Errno
}

// wrongRecords: bytes that are none, as many as they say.
func wrongRecords() map[string]string {
	all := map[string]string{
		"no bytes":                 sized(""),
		"one byte":                 sized("\x00"),
		"a number alone":           sized("\x00\x00\x00\x08"),
		"no frames":                sized("\x00\x00\x00\x08\x00"),
		"a frame that isn't there": sized("\x00\x00\x00\x08\x01"),
		"a frame too few":          sized("\x00\x00\x00\x08\x02\x00\x00\x00\x05\x01\x01a"),
		"a part too few":           sized("\x00\x00\x00\x08\x01\x00\x00\x00\x05\x02\x01a"),
		"a byte too few":           sized("\x00\x00\x00\x08\x01\x00\x00\x00\x05\x01\x02a"),
		"a byte too many":          sized("\x00\x00\x00\x08\x01\x00\x00\x00\x05\x01\x01ab"),
		"two records in one":       sized("\x00\x00\x00\x08\x01\x00\x00\x00\x05\x01\x01a" + bytesOf(9, at(5))),
		"255 frames":               sized("\x00\x00\x00\x08\xff" + strings.Repeat("\x00\x00\x00\x05\x01\x00", 255)),
		"255 parts":                sized("\x00\x00\x00\x08\x01\x00\x00\x00\x05\xff" + strings.Repeat("\x00", 255)),
		"a part of 255 bytes":      sized("\x00\x00\x00\x08\x01\x00\x00\x00\x05\x01\xff" + strings.Repeat("x", 255)),
		"a time of 2^31":           sized("\x00\x00\x00\x08\x01\x80\x00\x00\x00\x01\x01a"),
		"a time of 2^32-1":         sized("\x00\x00\x00\x08\x01\xff\xff\xff\xff\x01\x01a"),
		"a number above MaxGroup":  bytesOf(api.MaxGroup+1, at(5)),
		"a number of 2^31":         bytesOf(1<<31, at(5)),
		"a number of 2^32-1":       bytesOf(1<<32-1, at(5)),
		"only letters":             "\x00\x05abcde",
	}
	for _, c := range wrongGroups {
		// A record does not tell what is Key, and has room for 255 bytes of a part alone.
		if c.want != api.ErrState && c.name != "a part of 256 bytes" {
			all[c.name] = bytesOf(8, c.g)
		}
	}
	all["its time goes back"] = bytesOf(8, of(key(5, "a"), pic(4, "a")))
	return all
}

func wrongDisks() []wrongDisk {
	r := bytesOf(7, at(5))
	many := strings.Repeat("\x00", 2001)
	all := []wrongDisk{
		{"a byte too many, right as they are", api.Disk{Data: full() + "\x00"}, api.ErrMany},
		{"many bytes that are torn", api.Disk{Data: strings.Repeat("\xff", 2001)}, api.ErrMany},
		{"very many bytes", api.Disk{Data: strings.Repeat("\xff", 1000000)}, api.ErrMany},
		{"many bytes ahead of form", api.Disk{Data: many}, api.ErrMany},
		{"many bytes ahead of Synced", api.Disk{Data: many, Synced: -1}, api.ErrMany},
		{"the same number again", api.Disk{Data: r + r}, api.ErrForm},
		{"a number less by one", api.Disk{Data: r + bytesOf(6, at(5))}, api.ErrForm},
		{"a number more by two", api.Disk{Data: r + bytesOf(9, at(5))}, api.ErrForm},
		{"number 0 behind another", api.Disk{Data: r + bytesOf(0, at(5))}, api.ErrForm},
		{"the third number does not go on", api.Disk{Data: r + bytesOf(8, at(5)) + bytesOf(8, at(5)), Synced: 14}, api.ErrForm},
		{"a number behind MaxGroup", api.Disk{Data: allOf(api.MaxGroup, at(5), at(5))}, api.ErrForm},
		{"Synced of nothing", api.Disk{Synced: 1}, api.ErrRange},
		{"Synced below 0", api.Disk{Data: r, Synced: -1}, api.ErrRange},
		{"least Synced", api.Disk{Data: r, Synced: math.MinInt}, api.ErrRange},
		{"greatest Synced", api.Disk{Data: r, Synced: math.MaxInt}, api.ErrRange},
		{"Synced a byte into a record", api.Disk{Data: r, Synced: 1}, api.ErrRange},
		{"Synced at a record's body", api.Disk{Data: r, Synced: 2}, api.ErrRange},
		{"Synced a byte ahead of the end", api.Disk{Data: r, Synced: 13}, api.ErrRange},
		{"Synced a byte behind the end", api.Disk{Data: r, Synced: 15}, api.ErrRange},
		{"Synced within the second record", api.Disk{Data: r + bytesOf(8, at(5)), Synced: 20}, api.ErrRange},
		{"Synced within what is torn", api.Disk{Data: r + r[:5], Synced: 16}, api.ErrRange},
		{"Synced at the end of what is torn", api.Disk{Data: r + r[:5], Synced: 19}, api.ErrRange},
		{"Synced at the end of a torn byte", api.Disk{Data: "\x00", Synced: 1}, api.ErrRange},
		{"Synced where what is torn would end", api.Disk{Data: r[:13], Synced: 14}, api.ErrRange},
	}
	for name, s := range wrongRecords() {
		for where, data := range map[string]string{"": s, ", behind a right one": r + s, ", ahead of a right one": s + bytesOf(9, at(5)), ", ahead of a torn one": r + s + "\x00"} {
			all = append(all, wrongDisk{name + where, api.Disk{Data: data}, api.ErrForm}, wrongDisk{name + where + ", ahead of Synced", api.Disk{Data: data, Synced: 1}, api.ErrForm})
		}
	}
	return all
}

func TestG1WrongDisks(t *testing.T) {
	for _, c := range wrongDisks() {
		if e := disk.Check(c.d); e != c.want {
			t.Errorf("%s: Check of %x is %d, want %d", c.name, c.d.Data, e, c.want)
		}
	}
}

// TestG1WrongDisksInEveryCall: wrong numbers, groups and counts come along: Check of the disk tells ahead of them.
func TestG1WrongDisksInEveryCall(t *testing.T) {
	for _, c := range wrongDisks() {
		for _, n := range []int{-1, 7, 8, 9, api.MaxGroup + 1} {
			for _, g := range []api.Group{at(5), of(), of(pic(5, "a"))} {
				if d, e := disk.Append(c.d, n, g); d != (api.Disk{}) || e != c.want {
					t.Errorf("%s: Append is %+v %d, want nothing and %d", c.name, d, e, c.want)
				}
			}
		}
		if d, e := disk.Sync(c.d); d != (api.Disk{}) || e != c.want {
			t.Errorf("%s: Sync is %+v %d, want nothing and %d", c.name, d, e, c.want)
		}
		for _, keep := range []int{math.MinInt, -1, 0, 1, math.MaxInt} {
			if d, e := disk.Crash(c.d, keep); d != (api.Disk{}) || e != c.want {
				t.Errorf("%s: Crash is %+v %d, want nothing and %d", c.name, d, e, c.want)
			}
		}
		if s, d, e := disk.Open(c.d); !same(s, api.Store{}) || d != (api.Disk{}) || e != c.want {
			t.Errorf("%s: Open is %+v %+v %d, want nothing and %d", c.name, s, d, e, c.want)
		}
	}
}

// toldBy bytes behind their size: a number and a group, whatever they are, and whether all bytes are of them and no more.
func toldBy(b []byte) (n int, g api.Group, just bool) {
	if len(b) < 5 {
		return 0, g, false
	}
	n, g.Frames = int(binary.BigEndian.Uint32(b)), make([]api.Frame, b[4])
	i := 5
	for f := range g.Frames {
		if len(b) < i+5 {
			return 0, g, false
		}
		g.Frames[f] = api.Frame{Time: int(binary.BigEndian.Uint32(b[i:])), Key: f == 0, Parts: make([]string, b[i+4])}
		i += 5
		for p := range g.Frames[f].Parts {
			if len(b) < i+1 || len(b) < i+1+int(b[i]) {
				return 0, g, false
			}
			g.Frames[f].Parts[p] = string(b[i+1 : i+1+int(b[i])])
			i += 1 + int(b[i])
		}
	}
	return n, g, i == len(b)
}

// told by the bytes of a disk: its groups from a number on, how many bytes they are, and whether all of it is right.
func told(data string) (first int, l []api.Group, whole int, right bool) {
	for b := []byte(data); len(b) >= 2; {
		size := int(binary.BigEndian.Uint16(b))
		if len(b) < 2+size {
			break
		}
		n, g, just := toldBy(b[2 : 2+size])
		if !just || n > 100000 || group.Check(g) != api.OK || len(l) > 0 && n != first+len(l) {
			return 0, nil, 0, false
		}
		if len(l) == 0 {
			first = n
		}
		l, whole, b = append(l, g), whole+2+size, b[2+size:]
	}
	return first, l, whole, true
}

// changed: texts that are one byte away from s, or have one byte more or less.
func changed(s string, bytes ...byte) []string {
	var all []string
	for i := range len(s) {
		all = append(all, s[:i]+s[i+1:])
		for _, c := range bytes {
			all = append(all, s[:i]+string([]byte{c})+s[i+1:], s[:i]+string([]byte{c})+s[i:])
		}
	}
	return all
}

// TestG1NothingElseIsRight holds Check and Open against bytes that are nearly records, told another way.
func TestG1NothingElseIsRight(t *testing.T) {
	right, wrong := 0, 0
	for _, s := range []string{allOf(7, at(5)), allOf(1, of(key(5, "a", ""), pic(9, "xyz")), at(3)), allOf(0, of(key(5, "")), at(3), at(4))} {
		for _, once := range changed(s, 0, 1, 2, 3, 4, 7, 8, 12, 14, 255) {
			for _, x := range append(changed(once, 0, 1, 2, 5, 13), once) {
				first, l, whole, isRight := told(x)
				if !isRight {
					wrong++
					if e := disk.Check(api.Disk{Data: x}); e != api.ErrForm {
						t.Fatalf("Check of %x is %d, want ErrForm", x, e)
					}
					continue
				}
				right++
				st, d, e := disk.Open(api.Disk{Data: x})
				if e != api.OK || !same(st, api.Store{First: first, Groups: l}) || d != (api.Disk{Data: x[:whole], Synced: whole}) {
					t.Fatalf("Open of %x is %+v %+v %d, want %d %+v, %d bytes", x, st, d, e, first, l, whole)
				}
				if allOf(first, st.Groups...) != d.Data {
					t.Fatalf("Open of %x is %+v, whose bytes are %x", x, st, allOf(first, st.Groups...))
				}
			}
		}
	}
	if right < 1000 || wrong < 1000 {
		t.Errorf("%d right and %d wrong texts: the test says little", right, wrong)
	}
}

func TestG2Append(t *testing.T) {
	for _, g := range rightGroups {
		for _, n := range []int{0, 7, api.MaxGroup} {
			if d, e := disk.Append(api.Disk{}, n, g); d != (api.Disk{Data: bytesOf(n, g)}) || e != api.OK {
				t.Errorf("Append of %d %+v to nothing is %+v %d", n, g, d, e)
			}
		}
		for _, synced := range []int{0, 14, 28} {
			d := api.Disk{Data: allOf(7, at(5), at(3)), Synced: synced}
			got, e := disk.Append(d, 9, g)
			if got != (api.Disk{Data: allOf(7, at(5), at(3), g), Synced: synced}) || e != api.OK {
				t.Errorf("Append of %+v to %+v is %+v %d", g, d, got, e)
			}
		}
	}
	last := api.Disk{Data: allOf(api.MaxGroup-1, at(5))}
	if d, e := disk.Append(last, api.MaxGroup, at(3)); d.Data != allOf(api.MaxGroup-1, at(5), at(3)) || e != api.OK {
		t.Errorf("Append of the last number is %+v %d", d, e)
	}
}

// wantAppend is an error, and nothing else is answered.
func wantAppend(t *testing.T, d api.Disk, n int, g api.Group, want api.Errno) {
	t.Helper()
	if got, e := disk.Append(d, n, g); got != (api.Disk{}) || e != want {
		t.Errorf("Append of %d %+v to %x is %+v %d, want nothing and %d", n, g, d.Data, got, e, want)
	}
}

// TestG2AppendErrorsOfEncode: they tell ahead of a torn end, of a number that does not go on, and of too many bytes.
func TestG2AppendErrorsOfEncode(t *testing.T) {
	r := allOf(7, at(5))
	for _, d := range []api.Disk{{}, {Data: r}, {Data: r, Synced: 14}, {Data: r[:5]}, {Data: r + "\x00"}, {Data: allOf(api.MaxGroup, at(5))}, {Data: full()}} {
		for _, n := range notNumbers {
			wantAppend(t, d, n, at(5), api.ErrRange)
			wantAppend(t, d, n, of(), api.ErrRange)
		}
		for _, c := range wrongGroups {
			wantAppend(t, d, 8, c.g, c.want)
			wantAppend(t, d, 99, c.g, c.want)
		}
	}
}

func TestG2AppendErrorsOfState(t *testing.T) {
	for d, whole := range rightDisks() {
		if whole < len(d.Data) {
			for _, n := range []int{0, 7, 8, 9, 10, 11, 99, api.MaxGroup} {
				wantAppend(t, d, n, at(5), api.ErrState)
			}
		}
	}
	for _, n := range []int{0, 6, 7, 8, 10, 11, api.MaxGroup} {
		wantAppend(t, api.Disk{Data: allOf(7, at(5), at(3))}, n, at(5), api.ErrState)
	}
	wantAppend(t, api.Disk{Data: allOf(api.MaxGroup, at(5))}, api.MaxGroup, at(5), api.ErrState)
	wantAppend(t, api.Disk{Data: allOf(api.MaxGroup, at(5))}, 0, at(5), api.ErrState)
	// Both tell ahead of too many bytes.
	wantAppend(t, api.Disk{Data: full()}, 122, at(5), api.ErrState)
	wantAppend(t, api.Disk{Data: full()[:1999]}, 122, at(5), api.ErrState)
}

func TestG2AppendHasAtMostMaxData(t *testing.T) {
	d := api.Disk{Data: full()[:1981], Synced: 1981}
	if got, e := disk.Append(d, 122, of(key(5, "abcdef"))); got != (api.Disk{Data: full(), Synced: 1981}) || e != api.OK {
		t.Errorf("Append up to 2000 bytes is %d %d", len(got.Data), e)
	}
	wantAppend(t, d, 122, of(key(5, "abcdefg")), api.ErrMany)
	wantAppend(t, d, 122, greatest(), api.ErrMany)
	wantAppend(t, api.Disk{Data: full()}, 123, of(key(5, "")), api.ErrMany)
}

func TestG2Sync(t *testing.T) {
	for d, whole := range rightDisks() {
		want, wantErr := api.Disk{Data: d.Data, Synced: len(d.Data)}, api.OK
		if whole < len(d.Data) {
			want, wantErr = api.Disk{}, api.ErrState
		}
		if got, e := disk.Sync(d); got != want || e != wantErr {
			t.Errorf("Sync of %x %d is %+v %d, want %d", d.Data, d.Synced, got, e, wantErr)
		}
	}
}

func TestG2Crash(t *testing.T) {
	for d := range rightDisks() {
		for _, keep := range []int{0, 1, 2, 13, 14, 15, 1999, 2000, 2001, math.MaxInt - 2000, math.MaxInt} {
			want := api.Disk{Data: d.Data, Synced: d.Synced}
			if keep < len(d.Data)-d.Synced {
				want.Data = d.Data[:d.Synced+keep]
			}
			got, e := disk.Crash(d, keep)
			if got != want || e != api.OK {
				t.Errorf("Crash of %x %d, of which %d stay, is %+v %d", d.Data, d.Synced, keep, got, e)
			}
			if e := disk.Check(got); e != api.OK {
				t.Errorf("Check behind a Crash, %x %d, is %d", got.Data, got.Synced, e)
			}
		}
		for _, keep := range []int{math.MinInt, -2000, -1} {
			if got, e := disk.Crash(d, keep); got != (api.Disk{}) || e != api.ErrRange {
				t.Errorf("Crash with keep %d is %+v %d, want nothing and ErrRange", keep, got, e)
			}
		}
	}
}

func TestG2OpenLeavesWholeRecords(t *testing.T) {
	for d, whole := range rightDisks() {
		s, got, e := disk.Open(d)
		if got != (api.Disk{Data: d.Data[:whole], Synced: whole}) || e != api.OK {
			t.Errorf("Open of %x %d is %+v %d, want its first %d bytes", d.Data, d.Synced, got, e, whole)
		}
		if len(s.Open.Frames) != 0 || store.Check(s) != api.OK {
			t.Errorf("Open of %x %d is %+v, whose Check is %d", d.Data, d.Synced, s, store.Check(s))
		}
		if whole == 0 && !same(s, api.Store{}) {
			t.Errorf("Open of %x, that has no whole record, is %+v", d.Data, s)
		}
	}
}

// bytesIn: a group of so many bytes, at most 32.
func bytesIn(size int) api.Group {
	var parts []string
	for range 4 {
		parts = append(parts, strings.Repeat("x", min(size, 8)))
		size -= min(size, 8)
	}
	return of(key(5, parts...))
}

// joined: a group of the frames of all.
func joined(l ...api.Group) api.Group {
	g := of(slices.Clone(l[0].Frames)...)
	for _, more := range l[1:] {
		g.Frames = append(g.Frames, pic(5, more.Frames[0].Parts...))
	}
	return g
}

func TestG2OpenStore(t *testing.T) {
	b := bytesIn
	hundred := joined(b(32), b(32), b(32), b(4))
	great := joined(hundred, b(1))
	for _, c := range []struct {
		name  string
		first int
		l     []api.Group
		gone  int
	}{
		{"none", 0, nil, 0},
		{"one", 7, []api.Group{at(5)}, 0},
		{"number 0", 0, []api.Group{at(5), at(3)}, 0},
		{"the greatest number", api.MaxGroup, []api.Group{at(5)}, 0},
		{"five", 7, []api.Group{at(1), at(2), at(3), at(2), at(1)}, 0},
		{"six", 7, []api.Group{at(1), at(2), at(3), at(4), at(5), at(6)}, 1},
		{"six up to the greatest number", api.MaxGroup - 5, []api.Group{at(1), at(2), at(3), at(4), at(5), at(6)}, 1},
		{"twelve", 0, slices.Repeat([]api.Group{at(5)}, 12), 7},
		{"a hundred bytes", 7, []api.Group{b(32), b(32), b(32), b(4)}, 0},
		{"a hundred and one", 7, []api.Group{b(32), b(32), b(32), b(4), b(1)}, 1},
		{"a hundred and one, two go", 7, []api.Group{b(1), b(1), hundred}, 2},
		{"a hundred and one, one without bytes goes, too", 7, []api.Group{b(0), b(1), hundred}, 2},
		{"a hundred, and one without bytes", 7, []api.Group{b(0), hundred, b(0)}, 0},
		{"a single one of more than a hundred", 7, []api.Group{great}, 0},
		{"the newest one stays, however great", 7, []api.Group{b(0), b(0), greatest()}, 2},
		{"a great one goes for a small one", 7, []api.Group{b(1), great, b(0)}, 2},
		{"the greatest ones up to the greatest number", api.MaxGroup - 6, slices.Repeat([]api.Group{greatest()}, 7), 6},
		{"six of twenty bytes", 7, slices.Repeat([]api.Group{b(20)}, 6), 1},
		{"six of twenty-one bytes", 7, slices.Repeat([]api.Group{b(21)}, 6), 2},
	} {
		for _, torn := range []string{"", "\x00", allOf(c.first+len(c.l), at(5))[:13]} {
			data := allOf(c.first, c.l...)
			s, d, e := disk.Open(api.Disk{Data: data + torn})
			want := api.Store{First: c.first + c.gone, Groups: c.l[c.gone:]}
			if e != api.OK || !same(s, want) || d != (api.Disk{Data: data, Synced: len(data)}) {
				t.Errorf("%s, torn %x: Open is %+v %+v %d, want %+v", c.name, torn, s, d, e, want)
			}
		}
	}
}

// drawn: numbers below n, the same each time.
type drawn uint64

func (d *drawn) below(n int) int {
	*d = *d*6364136223846793005 + 1442695040888963407
	return int(uint64(*d)>>33) % n
}

// group that is right, with at most so many bytes in a part.
func (d *drawn) group(most int) api.Group {
	var g api.Group
	time := d.below(1000)
	for i := range 1 + d.below(6) {
		f := api.Frame{Time: time, Key: i == 0}
		for range 1 + d.below(4) {
			f.Parts = append(f.Parts, strings.Repeat(string([]byte{byte(d.below(256))}), d.below(most+1)))
		}
		g.Frames = append(g.Frames, f)
		time += d.below(3)
	}
	return g
}

// storeOf groups by chapter 6: frame by frame, and a last one that closes the last group.
func storeOf(t *testing.T, first int, l []api.Group) api.Store {
	s := api.Store{First: first}
	for _, g := range append(slices.Clone(l), at(0)) {
		for _, f := range g.Frames {
			var e api.Errno
			if s, _, e = store.Add(s, f); e != api.OK {
				t.Fatalf("Add of %+v is %d", f, e)
			}
		}
	}
	s.Open = of()
	return s
}

// TestG2OpenIsAsIfStored: what is on a disk is what a store would have kept of it.
func TestG2OpenIsAsIfStored(t *testing.T) {
	var d drawn
	for range 60 {
		first, most := d.below(1000), d.below(9)
		var l []api.Group
		var on api.Disk
		for {
			g := d.group(most)
			next, e := disk.Append(on, first+len(l), g)
			if e == api.ErrMany && len(on.Data)+len(bytesOf(0, g)) > 2000 {
				break
			}
			if e != api.OK {
				t.Fatalf("Append of %+v to %+v is %d", g, on, e)
			}
			on, l = next, append(l, g)
			s, _, e := disk.Open(on)
			if want := storeOf(t, first, l); e != api.OK || !same(s, want) {
				t.Fatalf("Open of %x is %+v %d, want %+v", on.Data, s, e, want)
			}
		}
		if on != (api.Disk{Data: allOf(first, l...)}) {
			t.Fatalf("the disk is %+v", on)
		}
	}
}

// TestG3EveryCrash: of groups in a row those stay whose bytes stay, and they as they were, whatever was Synced and is kept.
func TestG3EveryCrash(t *testing.T) {
	l := []api.Group{at(5), of(key(6, "", "b"), pic(7, "c")), at(5), of(key(0, "")), of(key(9, "xyz"))}
	data := allOf(7, l...)
	for synced := range len(l) + 1 {
		d := api.Disk{Data: data, Synced: len(allOf(7, l[:synced]...))}
		for keep := range len(data) - d.Synced + 3 {
			there := synced
			for there < len(l) && len(allOf(7, l[:there+1]...)) <= d.Synced+keep {
				there++
			}
			crashed, e := disk.Crash(d, keep)
			s, opened, f := disk.Open(crashed)
			want := api.Store{First: 7, Groups: l[:there]}
			if there == 0 {
				want.First = 0
			}
			if e != api.OK || f != api.OK || !same(s, want) {
				t.Fatalf("%d Synced, %d kept: Open is %+v %d %d, want %+v", d.Synced, keep, s, e, f, want)
			}
			// It can go on from there.
			if more, e := disk.Append(opened, 7+there, at(1)); e != api.OK || more.Data != allOf(7, append(slices.Clone(l[:there]), at(1))...) {
				t.Fatalf("%d Synced, %d kept: Append is %+v %d", d.Synced, keep, more, e)
			}
		}
	}
}

// TestG3LongScripts: groups come, are Synced, and crash, and all that was Synced is there.
func TestG3LongScripts(t *testing.T) {
	var d drawn
	crashes := 0
	for range 300 {
		first := d.below(1000)
		var l []api.Group
		var on api.Disk
		synced := 0
		for range 60 {
			switch d.below(6) {
			case 0:
				on, _ = disk.Sync(on)
				synced = len(l)
			case 1:
				crashed, _ := disk.Crash(on, d.below(120))
				s, opened, e := disk.Open(crashed)
				there := 0
				for there < len(l) && len(allOf(first, l[:there+1]...)) <= len(crashed.Data) {
					there++
				}
				if e != api.OK || there < synced || opened.Data != allOf(first, l[:there]...) {
					t.Fatalf("of %d groups, %d of them Synced, %d are there: %+v %d", len(l), synced, there, opened, e)
				}
				for i, g := range s.Groups {
					if n := s.First + i - first; n >= there || !sameGroup(g, l[n]) {
						t.Fatalf("group %d is %+v", s.First+i, g)
					}
				}
				if there > 0 && (len(s.Groups) == 0 || s.First+len(s.Groups) != first+there) {
					t.Fatalf("of %d groups from %d on the store has %+v", there, first, s)
				}
				on, l, synced = opened, l[:there:there], there
				crashes++
			default:
				g := d.group(2)
				if next, e := disk.Append(on, first+len(l), g); e == api.OK {
					on, l = next, append(l, g)
				} else if e != api.ErrMany {
					t.Fatalf("Append is %d", e)
				}
			}
		}
	}
	if crashes < 1000 {
		t.Errorf("%d crashes: the test says little", crashes)
	}
}

// TestP1NoneEndsInPanic: drawn bytes, most of which say sizes that may be.
func TestP1NoneEndsInPanic(t *testing.T) {
	var d drawn
	for range 20000 {
		b := make([]byte, d.below(60))
		most := 2 + d.below(255)
		for i := range b {
			b[i] = byte(d.below(most))
		}
		for i := 0; i < len(b) && d.below(2) == 0; i += 13 {
			copy(b[i:], "\x00\x0b\x00\x00\x00")
		}
		on := api.Disk{Data: string(b), Synced: d.below(3)}
		e := disk.Check(on)
		if e < api.OK || e > api.ErrKind {
			t.Fatalf("Check of %x is %d", b, e)
		}
		s, opened, f := disk.Open(on)
		crashed, g := disk.Crash(on, d.below(60))
		if f != e || g != e || e != api.OK && (!same(s, api.Store{}) || opened != (api.Disk{}) || crashed != (api.Disk{})) {
			t.Fatalf("Check of %x is %d, Open %+v %+v %d, Crash %+v %d", b, e, s, opened, f, crashed, g)
		}
		disk.Sync(on)
		disk.Append(on, d.below(3), at(5))
	}
}

// spare: a group with room behind each list.
func spare() api.Group {
	return of([]api.Frame{key(1, []string{"a", "b", "spare"}[:2]...), pic(2, []string{"c", "spare"}[:1]...), pic(3, "spare")}[:2]...)
}

// room: all that the lists of a group have, their spare room too.
func room(g api.Group) api.Group {
	all := slices.Clone(g.Frames[:cap(g.Frames)])
	for i, f := range all {
		all[i].Parts = slices.Clone(f.Parts[:cap(f.Parts)])
	}
	return of(all...)
}

func TestP2WhatIsHandedInIsOnlyRead(t *testing.T) {
	g := spare()
	disk.Encode(7, g)
	disk.Encode(-1, g)
	disk.Append(api.Disk{}, 7, g)
	disk.Append(api.Disk{Data: allOf(6, at(5))}, 7, g)
	disk.Append(api.Disk{Data: "\x00"}, 7, g)
	if !sameGroup(g, spare()) || !sameGroup(room(g), room(spare())) {
		t.Errorf("what was handed in is %+v", room(g))
	}
}

func TestP2ALaterChangeIsNotSeen(t *testing.T) {
	g := spare()
	s, _ := disk.Encode(7, g)
	d, _ := disk.Append(api.Disk{}, 7, g)
	g.Frames[0].Parts[0] = "x"
	g.Frames[1] = api.Frame{}
	if want := bytesOf(7, spare()); s != want || d.Data != want {
		t.Errorf("Encode is %x, Append %x, want %x", s, d.Data, want)
	}
}

func TestP2NoTwoListsShareMemory(t *testing.T) {
	l := []api.Group{of(key(1, "a"), pic(2, "b", "c"), pic(3, "d")), at(5), at(5), of(key(7, "e", "f", "g"))}
	s, _, _ := disk.Open(api.Disk{Data: allOf(7, l...)})
	for _, g := range s.Groups {
		for _, f := range g.Frames {
			clear(f.Parts[len(f.Parts):cap(f.Parts)])
		}
		clear(g.Frames[len(g.Frames):cap(g.Frames)])
	}
	clear(s.Groups[len(s.Groups):cap(s.Groups)])
	if !same(s, api.Store{First: 7, Groups: l}) {
		t.Errorf("lists share memory: %+v", s)
	}
	s.Groups[1].Frames[0].Parts[0] = "x"
	if !sameGroup(s.Groups[2], at(5)) {
		t.Errorf("groups share memory: %+v", s)
	}
}

// isWithin tells whether a text is in the memory of another.
func isWithin(part, whole string) bool {
	p, from := uintptr(unsafe.Pointer(unsafe.StringData(part))), uintptr(unsafe.Pointer(unsafe.StringData(whole)))
	return part != "" && p >= from && p < from+uintptr(len(whole))
}

func TestP2TextsAreNewMemory(t *testing.T) {
	part := string([]byte("abc"))
	d := api.Disk{Data: allOf(7, of(key(1, part)), of(key(2, "def")))}
	s, opened, _ := disk.Open(d)
	appended, _ := disk.Append(d, 9, of(key(3, part)))
	synced, _ := disk.Sync(d)
	crashed, _ := disk.Crash(d, 20)
	kept, _ := disk.Crash(d, 2000)
	for name, text := range map[string]string{
		"Open's disk": opened.Data, "Open's first part": s.Groups[0].Frames[0].Parts[0], "Open's second part": s.Groups[1].Frames[0].Parts[0],
		"Append": appended.Data, "Sync": synced.Data, "Crash of a few": crashed.Data, "Crash that keeps all": kept.Data,
	} {
		if text == "" || isWithin(text, d.Data) || isWithin(text, part) {
			t.Errorf("%s: %x shares memory with what was handed in", name, text)
		}
	}
	if isWithin(s.Groups[0].Frames[0].Parts[0], opened.Data) {
		t.Error("a part of the store shares memory with the disk beside it")
	}
}

func TestP3AnswersAreTheSameAgain(t *testing.T) {
	d := api.Disk{Data: allOf(7, at(5), at(3)), Synced: 14}
	for range 3 {
		for _, c := range wrongDisks() {
			disk.Check(c.d)
			disk.Append(c.d, 9, at(5))
			disk.Sync(c.d)
			disk.Crash(c.d, 5)
			disk.Open(c.d)
		}
		for _, c := range wrongGroups {
			disk.Encode(9, c.g)
		}
		if s, e := disk.Encode(9, at(5)); s != bytesOf(9, at(5)) || e != api.OK || disk.Check(d) != api.OK {
			t.Errorf("Encode is %x %d, Check %d", s, e, disk.Check(d))
		}
		if got, e := disk.Append(d, 9, at(1)); got != (api.Disk{Data: allOf(7, at(5), at(3), at(1)), Synced: 14}) || e != api.OK {
			t.Errorf("Append is %+v %d", got, e)
		}
		if got, e := disk.Sync(d); got != (api.Disk{Data: d.Data, Synced: 28}) || e != api.OK {
			t.Errorf("Sync is %+v %d", got, e)
		}
		if got, e := disk.Crash(d, 5); got != (api.Disk{Data: d.Data[:19], Synced: 14}) || e != api.OK {
			t.Errorf("Crash is %+v %d", got, e)
		}
		if s, got, e := disk.Open(d); !same(s, api.Store{First: 7, Groups: []api.Group{at(5), at(3)}}) || got != (api.Disk{Data: d.Data, Synced: 28}) || e != api.OK {
			t.Errorf("Open is %+v %+v %d", s, got, e)
		}
	}
}
