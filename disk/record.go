package disk

import (
	"iter"

	"switchback/api"
	"switchback/raw"
)

// How many bytes each number of a record has.
const (
	sizeBytes   = 2
	numberBytes = 4
	countBytes  = 1
	timeBytes   = 4
)

// recordOf a group and its number that are right.
func recordOf(n int, g api.Group) string {
	var body raw.Writer
	body.Number(n, numberBytes)
	body.Number(len(g.Frames), countBytes)
	for _, f := range g.Frames {
		putFrame(&body, f)
	}
	var whole raw.Writer
	whole.Number(len(body.All()), sizeBytes)
	whole.Text(body.All())
	return whole.All()
}

func putFrame(w *raw.Writer, f api.Frame) {
	w.Number(f.Time, timeBytes)
	w.Number(len(f.Parts), countBytes)
	for _, part := range f.Parts {
		w.Number(len(part), countBytes)
		w.Text(part)
	}
}

// records of data, in order: the bytes that follow each one's size, and where in data they end.
// A record that is torn is not among them.
func records(data string) iter.Seq2[string, int] {
	return func(yield func(string, int) bool) {
		left := data
		for left != "" {
			var body string
			behind, whole := raw.Read(left, func(r *raw.Reader) {
				body = r.Take(r.Number(sizeBytes))
			})
			if !whole || !yield(body, len(data)-len(behind)) {
				return
			}
			left = behind
		}
	}
}

// decode the bytes of a record behind its size: its number, its group, and whether just these bytes tell a right one.
func decode(body string) (int, api.Group, bool) {
	var n int
	var g api.Group
	left, found := raw.Read(body, func(r *raw.Reader) {
		n = r.Number(numberBytes)
		for i := range r.Number(countBytes) {
			f := takeFrame(r)
			f.Key = i == 0
			g.Frames = append(g.Frames, f)
		}
	})
	if !found || left != "" {
		return 0, api.Group{}, false
	}
	_, e := Encode(n, g)
	return n, g, e == api.OK
}

func takeFrame(r *raw.Reader) api.Frame {
	f := api.Frame{Time: r.Number(timeBytes)}
	for range r.Number(countBytes) {
		f.Parts = append(f.Parts, r.Text(r.Number(countBytes)))
	}
	return f
}
