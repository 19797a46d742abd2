package raw_test

import (
	"testing"
	"unsafe"

	"switchback/raw"
)

func TestReadTakesBytesInOrder(t *testing.T) {
	var taken, text string
	var one, two, four int
	left, found := raw.Read("ab\x07\x01\x02\x00\x0f\x42\x40cde", func(r *raw.Reader) {
		taken = r.Take(2)
		one, two, four = r.Number(1), r.Number(2), r.Number(4)
		text = r.Text(1)
	})
	if taken != "ab" || one != 7 || two != 258 || four != 1000000 || text != "c" || left != "de" || !found {
		t.Errorf("read: %q %d %d %d %q, left %q, found %v", taken, one, two, four, text, left, found)
	}
}

func TestReadOfNothing(t *testing.T) {
	for _, s := range []string{"", "ab"} {
		left, found := raw.Read(s, func(r *raw.Reader) {
			if r.Take(0) != "" || r.Number(0) != 0 || r.Text(0) != "" {
				t.Errorf("of no bytes of %q something is told", s)
			}
		})
		if left != s || !found {
			t.Errorf("Read of nothing of %q leaves %q, %v", s, left, found)
		}
	}
}

func TestReadTellsTooFewBytes(t *testing.T) {
	for name, read := range map[string]func(*raw.Reader){
		"Take":                 func(r *raw.Reader) { r.Take(4) },
		"Number":               func(r *raw.Reader) { r.Number(4) },
		"Text":                 func(r *raw.Reader) { r.Text(4) },
		"behind what is there": func(r *raw.Reader) { r.Take(3); r.Number(1) },
		"told by a number":     func(r *raw.Reader) { r.Text(r.Number(1)) },
	} {
		gone := false
		left, found := raw.Read("\x03ab", func(r *raw.Reader) {
			read(r)
			gone = true
		})
		if left != "" || found || gone {
			t.Errorf("%s: Read leaves %q, %v; it went on: %v", name, left, found, gone)
		}
	}
}

// TestReadPassesOtherPanicsOn: a fault of the program is not taken for bytes that are too few.
func TestReadPassesOtherPanicsOn(t *testing.T) {
	defer func() {
		if caught := recover(); caught != "a fault" {
			t.Errorf("caught %v", caught)
		}
	}()
	raw.Read("ab", func(*raw.Reader) { panic("a fault") })
	t.Error("the panic was kept")
}

func TestP2TextIsNewMemory(t *testing.T) {
	s := string([]byte("abcd"))
	raw.Read(s, func(r *raw.Reader) {
		if unsafe.StringData(r.Text(4)) == unsafe.StringData(s) {
			t.Error("Text shares memory with what is read")
		}
	})
}

func TestWriterPutsBytesInOrder(t *testing.T) {
	var w raw.Writer
	if w.All() != "" {
		t.Errorf("All of nothing is %q", w.All())
	}
	w.Put()
	w.Put(1)
	w.Put(2, 255, 0)
	w.Number(258, 1)
	w.Number(258, 2)
	w.Number(1000000, 4)
	w.Number(9, 0)
	w.Text("")
	w.Text("é")
	if want := "\x01\x02\xff\x00" + "\x02" + "\x01\x02" + "\x00\x0f\x42\x40" + "\xc3\xa9"; w.All() != want {
		t.Errorf("All is %x, want %x", w.All(), want)
	}
}

func TestWhatIsPutIsRead(t *testing.T) {
	for _, n := range []int{0, 1, 255, 256, 65535, 65536, 1<<32 - 1} {
		var w raw.Writer
		w.Number(n, 4)
		w.Text("ab")
		left, found := raw.Read(w.All(), func(r *raw.Reader) {
			if got, text := r.Number(4), r.Text(2); got != n || text != "ab" {
				t.Errorf("%d and \"ab\" are read as %d and %q", n, got, text)
			}
		})
		if left != "" || !found {
			t.Errorf("%d: left %q, found %v", n, left, found)
		}
	}
}

func TestP2AllIsNotChangedByALaterPut(t *testing.T) {
	var w raw.Writer
	w.Text("ab")
	was := w.All()
	w.Text("cd")
	if was != "ab" || w.All() != "abcd" {
		t.Errorf("All was %q, is %q", was, w.All())
	}
}
