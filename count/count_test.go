package count_test

import (
	"math"
	"slices"
	"testing"

	"switchback/api"
	"switchback/count"
)

// back and ahead: how far from the last number another one is found.
const (
	back  = 32767
	ahead = 32768
)

// lasts: numbers at the edges, near them, and at turns of the round.
var lasts = []int{
	api.MinN, api.MinN + 1, api.MinN + back - 1, api.MinN + back, api.MinN + back + 1, 98304, 131071, 131072, 131073, 200000, 500000000,
	api.MaxN - ahead - 1, api.MaxN - ahead, api.MaxN - ahead + 1, api.MaxN - 1, api.MaxN,
}

// notNumbers: what is not from MinN to MaxN.
var notNumbers = []int{math.MinInt, -api.MinN, -1, 0, 1, api.MinN - 1, api.MaxN + 1, math.MaxInt}

func TestB1Wrap(t *testing.T) {
	for _, c := range []struct{ n, want int }{
		{api.MinN, 0}, {api.MinN + 1, 1}, {98304, 32768}, {131071, 65535}, {131072, 0}, {131073, 1}, {api.MaxN - 1, 51711}, {api.MaxN, 51712},
	} {
		if got, e := count.Wrap(c.n); got != c.want || e != api.OK {
			t.Errorf("Wrap of %d is %d %d, want %d OK", c.n, got, e, c.want)
		}
	}
}

func TestB1WrapErrors(t *testing.T) {
	for _, n := range notNumbers {
		if got, e := count.Wrap(n); got != 0 || e != api.ErrRange {
			t.Errorf("Wrap of %d is %d %d, want 0 ErrRange", n, got, e)
		}
	}
}

// TestB1Unwrap goes through every number that may be found from a last one; B2 for one step.
func TestB1Unwrap(t *testing.T) {
	for _, last := range lasts {
		for n := last - back; n <= last+ahead; n++ {
			want, wantErr := n, api.OK
			if n < api.MinN || n > api.MaxN {
				want, wantErr = 0, api.ErrRange
			}
			if got, e := count.Unwrap(last, n%65536); got != want || e != wantErr {
				t.Fatalf("Unwrap of %d by %d is %d %d, want %d %d", n%65536, last, got, e, want, wantErr)
			}
		}
	}
}

func TestB1UnwrapIsFoundByWrap(t *testing.T) {
	for _, last := range lasts {
		for seq := range api.MaxSeq + 1 {
			n, e := count.Unwrap(last, seq)
			if e != api.OK {
				continue
			}
			if w, f := count.Wrap(n); w != seq || f != api.OK {
				t.Fatalf("Unwrap of %d by %d is %d, whose Wrap is %d %d", seq, last, n, w, f)
			}
		}
	}
}

func TestB1UnwrapErrors(t *testing.T) {
	for _, last := range notNumbers {
		for _, seq := range []int{math.MinInt, -1, 0, 1, 32768, api.MaxSeq, api.MaxSeq + 1, math.MaxInt} {
			if got, e := count.Unwrap(last, seq); got != 0 || e != api.ErrRange {
				t.Errorf("Unwrap of %d by %d is %d %d, want 0 ErrRange", seq, last, got, e)
			}
		}
	}
	for _, last := range lasts {
		for _, seq := range []int{math.MinInt, -65536, -1, api.MaxSeq + 1, 2 * 65536, math.MaxInt} {
			if got, e := count.Unwrap(last, seq); got != 0 || e != api.ErrRange {
				t.Errorf("Unwrap of %d by %d is %d %d, want 0 ErrRange", seq, last, got, e)
			}
		}
	}
}

func wantAll(t *testing.T, first int, l, want []int, wantErr api.Errno) {
	t.Helper()
	got, e := count.All(first, l)
	if !slices.Equal(got, want) || e != wantErr {
		t.Errorf("All of %v by %d is %v %d, want %v %d", l, first, got, e, want, wantErr)
	}
}

func TestB1All(t *testing.T) {
	wantAll(t, 65536, []int{1, 2, 3}, []int{65537, 65538, 65539}, api.OK)
	wantAll(t, 131070, []int{65534, 65535, 0, 1}, []int{131070, 131071, 131072, 131073}, api.OK)
	wantAll(t, 200000, []int{3, 1, 65530, 2}, []int{196611, 196609, 196602, 196610}, api.OK)
	wantAll(t, 65536, []int{30000, 60000, 20000, 50000}, []int{95536, 125536, 151072, 181072}, api.OK)
	wantAll(t, 65536, []int{32768, 0, 32768}, []int{98304, 131072, 163840}, api.OK)
	wantAll(t, api.MaxN, []int{51711, 51712}, []int{api.MaxN - 1, api.MaxN}, api.OK)
}

func TestB1AllOfNothing(t *testing.T) {
	for _, first := range append([]int{api.MinN, api.MaxN}, notNumbers...) {
		wantAll(t, first, nil, nil, api.OK)
		wantAll(t, first, []int{}, nil, api.OK)
	}
}

func TestB1AllErrors(t *testing.T) {
	for _, first := range notNumbers {
		wantAll(t, first, []int{0}, nil, api.ErrRange)
		wantAll(t, first, []int{1, 2, 3}, nil, api.ErrRange)
	}
	wantAll(t, 65536, []int{65535}, nil, api.ErrRange)
	wantAll(t, 65536, []int{1, 0, 65535}, nil, api.ErrRange)
	wantAll(t, 65536, []int{5, -1}, nil, api.ErrRange)
	wantAll(t, 65536, []int{5, 65536, 6}, nil, api.ErrRange)
	wantAll(t, api.MaxN, []int{51712, 51713}, nil, api.ErrRange)
	wantAll(t, api.MaxN, []int{51713, 51712}, nil, api.ErrRange)
}

// walk of numbers that go on, or back, by at most 32767 each; the same each time.
func walk(first, most int) []int {
	draw, n := uint64(first), first
	var all []int
	for range 5000 {
		draw = draw*6364136223846793005 + 1442695040888963407
		step := int(draw>>33)%(2*most+1) - most
		if n+step >= api.MinN && n+step <= api.MaxN {
			n += step
		}
		all = append(all, n)
	}
	return all
}

func TestB2NumbersAreFoundAsTheyWere(t *testing.T) {
	for _, first := range []int{api.MinN, 200000, 500000000, api.MaxN} {
		for _, most := range []int{1, 100, back} {
			numbers := walk(first, most)
			var seqs []int
			for _, n := range numbers {
				w, e := count.Wrap(n)
				if e != api.OK {
					t.Fatalf("Wrap of %d is %d, want OK", n, e)
				}
				seqs = append(seqs, w)
			}
			if got, e := count.All(first, seqs); !slices.Equal(got, numbers) || e != api.OK {
				t.Errorf("numbers from %d on, by at most %d, are not found as they were (%d)", first, most, e)
			}
		}
	}
}

func TestB2GreatestSteps(t *testing.T) {
	var seqs, numbers []int
	n := api.MinN
	for i := range 40 {
		step := back
		if i >= 20 {
			step = -back
		}
		n += step
		numbers = append(numbers, n)
		seqs = append(seqs, n%65536)
	}
	wantAll(t, api.MinN, seqs, numbers, api.OK)
}

func TestP2AllOnlyReadsWhatItIsHanded(t *testing.T) {
	room := []int{1, 2, 3, 77, 78, 79}
	l := room[:3]
	got, e := count.All(65536, l)
	if e != api.OK {
		t.Fatalf("All is %d, want OK", e)
	}
	if !slices.Equal(room, []int{1, 2, 3, 77, 78, 79}) {
		t.Errorf("what was handed in, with its spare room, is %v now", room)
	}
	for i := range room {
		room[i] = 9
	}
	if !slices.Equal(got, []int{65537, 65538, 65539}) {
		t.Errorf("a later change of what was handed in is seen in the answer: %v", got)
	}
}

func TestP2AllAnswersNewMemory(t *testing.T) {
	l := []int{1, 2, 3}
	one, _ := count.All(65536, l)
	two, _ := count.All(65536, l)
	for i := range one {
		one[i] = 0
	}
	if !slices.Equal(two, []int{65537, 65538, 65539}) || !slices.Equal(l, []int{1, 2, 3}) {
		t.Errorf("a change of one answer is seen in another one, %v, or in what was handed in, %v", two, l)
	}
}

func TestP3AnswersAreTheSameAgain(t *testing.T) {
	for range 3 {
		wantAll(t, 65536, []int{1, 2, 3}, []int{65537, 65538, 65539}, api.OK)
		wantAll(t, 900000000, []int{5, -1}, nil, api.ErrRange)
		wantAll(t, 5, []int{5}, nil, api.ErrRange)
		if n, e := count.Unwrap(65536, 7); n != 65543 || e != api.OK {
			t.Errorf("Unwrap of 7 by 65536 is %d %d, want 65543 OK", n, e)
		}
	}
}
