package raw

// Writer puts bytes behind those that it has.
type Writer struct{ made []byte }

// Put bytes.
func (w *Writer) Put(l ...byte) {
	w.made = append(w.made, l...)
}

// Number by its lowest bytes, so many of them, the greatest first.
func (w *Writer) Number(n, size int) {
	for i := size - 1; i >= 0; i-- {
		w.Put(byte(n >> (8 * i)))
	}
}

// Text by its bytes.
func (w *Writer) Text(s string) {
	w.Put([]byte(s)...)
}

// All that was put, as a text.
func (w *Writer) All() string {
	return string(w.made)
}
