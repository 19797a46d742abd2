package pace_test

import (
	"math"
	"testing"

	"switchback/api"
	"switchback/pace"
)

// rightPaces: the edges of each number.
func rightPaces() []api.Pace {
	var all []api.Pace
	for _, wall := range []int{0, 1, 10, 500000, api.MaxTime - 1, api.MaxTime} {
		for _, media := range []int{0, 1, 100, 500000, api.MaxTime - 1, api.MaxTime} {
			for _, num := range []int{1, 2, 3, 7, 50, 99, 100} {
				for _, den := range []int{1, 2, 3, 7, 50, 99, 100} {
					all = append(all, api.Pace{Wall: wall, Media: media, Num: num, Den: den})
				}
			}
		}
	}
	return all
}

// outside: what is not from least to most, at the edges and far off.
func outside(least, most int) []int {
	return []int{math.MinInt, least - 1000, least - 1, most + 1, most + 1000, math.MaxInt}
}

// wrongPaces: one number of each is wrong.
func wrongPaces() []api.Pace {
	all := []api.Pace{{}}
	for _, n := range outside(0, api.MaxTime) {
		all = append(all, api.Pace{Wall: n, Num: 1, Den: 1}, api.Pace{Media: n, Num: 1, Den: 1})
	}
	for _, n := range outside(1, api.MaxPace) {
		all = append(all, api.Pace{Num: n, Den: 1}, api.Pace{Num: 1, Den: n}, api.Pace{Num: n, Den: n})
	}
	return all
}

func wantMedia(t *testing.T, p api.Pace, wall, want int, wantErr api.Errno) {
	t.Helper()
	if got, e := pace.Media(p, wall); got != want || e != wantErr {
		t.Fatalf("Media of %+v at %d is %d %d, want %d %d", p, wall, got, e, want, wantErr)
	}
}

func wantWall(t *testing.T, p api.Pace, media, want int, wantErr api.Errno) {
	t.Helper()
	if got, e := pace.Wall(p, media); got != want || e != wantErr {
		t.Fatalf("Wall of %+v of %d is %d %d, want %d %d", p, media, got, e, want, wantErr)
	}
}

func wantTurn(t *testing.T, p api.Pace, wall, num, den int, want api.Pace, wantErr api.Errno) {
	t.Helper()
	if got, e := pace.Turn(p, wall, num, den); got != want || e != wantErr {
		t.Fatalf("Turn of %+v at %d to %d in %d is %+v %d, want %+v %d", p, wall, num, den, got, e, want, wantErr)
	}
}

// wantOnlyRange: all three calls tell ErrRange, whatever else they are handed.
func wantOnlyRange(t *testing.T, p api.Pace) {
	t.Helper()
	for _, n := range []int{math.MinInt, -1, 0, 1, 100, api.MaxTime, api.MaxTime + 1, math.MaxInt} {
		wantMedia(t, p, n, 0, api.ErrRange)
		wantWall(t, p, n, 0, api.ErrRange)
		for _, m := range []int{math.MinInt, 0, 1, 100, 101, math.MaxInt} {
			wantTurn(t, p, n, m, 1, api.Pace{}, api.ErrRange)
			wantTurn(t, p, n, 1, m, api.Pace{}, api.ErrRange)
		}
	}
}

func TestH1WrongPaces(t *testing.T) {
	for _, p := range wrongPaces() {
		wantOnlyRange(t, p)
	}
}

func TestH1RightPaces(t *testing.T) {
	for _, p := range rightPaces() {
		wantMedia(t, p, p.Wall, p.Media, api.OK)
		wantWall(t, p, p.Media, p.Wall, api.OK)
		wantTurn(t, p, p.Wall, p.Num, p.Den, p, api.OK)
	}
}

func TestH1Media(t *testing.T) {
	for _, c := range []struct {
		p          api.Pace
		wall, want int
	}{
		{api.Pace{Num: 1, Den: 1}, 0, 0},
		{api.Pace{Num: 1, Den: 1}, api.MaxTime, api.MaxTime},
		{api.Pace{Wall: 10, Media: 100, Num: 3, Den: 2}, 11, 101},
		{api.Pace{Wall: 10, Media: 100, Num: 3, Den: 2}, 12, 103},
		{api.Pace{Wall: 10, Media: 100, Num: 2, Den: 3}, 11, 100},
		{api.Pace{Wall: 10, Media: 100, Num: 2, Den: 3}, 12, 101},
		{api.Pace{Wall: 10, Media: 100, Num: 2, Den: 3}, 13, 102},
		{api.Pace{Wall: 10, Media: 100, Num: 4, Den: 6}, 13, 102},
		{api.Pace{Num: 1, Den: 100}, 99, 0},
		{api.Pace{Num: 1, Den: 100}, 100, 1},
		{api.Pace{Num: 1, Den: 100}, 199, 1},
		{api.Pace{Num: 99, Den: 100}, 1, 0},
		{api.Pace{Media: 1, Num: 1, Den: 1}, api.MaxTime, api.MaxTime + 1},
		{api.Pace{Media: api.MaxTime, Num: 100, Den: 1}, api.MaxTime, 101 * api.MaxTime},
	} {
		wantMedia(t, c.p, c.wall, c.want, api.OK)
	}
}

func TestH1Wall(t *testing.T) {
	for _, c := range []struct {
		p           api.Pace
		media, want int
	}{
		{api.Pace{Num: 1, Den: 1}, api.MaxTime, api.MaxTime},
		{api.Pace{Wall: 10, Media: 100, Num: 3, Den: 2}, 101, 11},
		{api.Pace{Wall: 10, Media: 100, Num: 3, Den: 2}, 102, 12},
		{api.Pace{Wall: 10, Media: 100, Num: 3, Den: 2}, 103, 12},
		{api.Pace{Wall: 10, Media: 100, Num: 2, Den: 3}, 101, 12},
		{api.Pace{Wall: 10, Media: 100, Num: 2, Den: 3}, 102, 13},
		{api.Pace{Wall: 10, Media: 100, Num: 2, Den: 3}, 103, 15},
		{api.Pace{Num: 100, Den: 1}, 1, 1},
		{api.Pace{Num: 100, Den: 1}, 100, 1},
		{api.Pace{Num: 100, Den: 1}, 101, 2},
		{api.Pace{Num: 1, Den: 100}, 1, 100},
		{api.Pace{Wall: 1, Num: 1, Den: 1}, api.MaxTime, api.MaxTime + 1},
		{api.Pace{Wall: api.MaxTime, Num: 1, Den: 100}, api.MaxTime, 101 * api.MaxTime},
	} {
		wantWall(t, c.p, c.media, c.want, api.OK)
	}
}

func TestH1TurnIsAnotherPace(t *testing.T) {
	p := api.Pace{Wall: 10, Media: 100, Num: 3, Den: 2}
	wantTurn(t, p, 10, 1, 1, api.Pace{Wall: 10, Media: 100, Num: 1, Den: 1}, api.OK)
	wantTurn(t, p, 11, 1, 100, api.Pace{Wall: 11, Media: 101, Num: 1, Den: 100}, api.OK)
	wantTurn(t, p, 13, 100, 1, api.Pace{Wall: 13, Media: 104, Num: 100, Den: 1}, api.OK)
	wantTurn(t, p, 13, 50, 100, api.Pace{Wall: 13, Media: 104, Num: 50, Den: 100}, api.OK)
}

func TestH1Edges(t *testing.T) {
	for _, p := range rightPaces() {
		for _, n := range outside(p.Wall, api.MaxTime) {
			wantMedia(t, p, n, 0, api.ErrRange)
			wantTurn(t, p, n, 1, 1, api.Pace{}, api.ErrRange)
		}
		for _, n := range outside(p.Media, api.MaxTime) {
			wantWall(t, p, n, 0, api.ErrRange)
		}
		for _, n := range outside(1, api.MaxPace) {
			wantTurn(t, p, p.Wall, n, 1, api.Pace{}, api.ErrRange)
			wantTurn(t, p, p.Wall, 1, n, api.Pace{}, api.ErrRange)
		}
	}
}

func TestH1TurnTooFar(t *testing.T) {
	p := api.Pace{Wall: 10, Media: api.MaxTime - 3, Num: 3, Den: 2}
	wantTurn(t, p, 12, 5, 4, api.Pace{Wall: 12, Media: api.MaxTime, Num: 5, Den: 4}, api.OK)
	wantTurn(t, p, 13, 5, 4, api.Pace{}, api.ErrMany)
	wantTurn(t, p, api.MaxTime, 5, 4, api.Pace{}, api.ErrMany)
	half := api.Pace{Media: api.MaxTime, Num: 1, Den: 2}
	wantTurn(t, half, 1, 1, 1, api.Pace{Wall: 1, Media: api.MaxTime, Num: 1, Den: 1}, api.OK)
	wantTurn(t, half, 2, 1, 1, api.Pace{}, api.ErrMany)
	// What is out of range tells ahead of a media time that is too great.
	for _, n := range outside(1, api.MaxPace) {
		wantTurn(t, p, 13, n, 4, api.Pace{}, api.ErrRange)
		wantTurn(t, p, 13, 5, n, api.Pace{}, api.ErrRange)
	}
	wantTurn(t, p, api.MaxTime+1, 5, 4, api.Pace{}, api.ErrRange)
}

// TestH1StepByStep goes from Wall on one by one: each time adds Num parts, and each Den of them are one of media.
func TestH1StepByStep(t *testing.T) {
	for num := 1; num <= 100; num += 3 {
		for den := 1; den <= 100; den += 3 {
			p := api.Pace{Wall: 20, Media: 30, Num: num, Den: den}
			media, parts, came := p.Media, 0, p.Media
			for wall := p.Wall; wall < p.Wall+150; wall++ {
				wantMedia(t, p, wall, media, api.OK)
				for ; came <= media; came++ {
					wantWall(t, p, came, wall, api.OK)
				}
				wantTurn(t, p, wall, den, num, api.Pace{Wall: wall, Media: media, Num: den, Den: num}, api.OK)
				for parts += num; parts >= den; parts -= den {
					media++
				}
			}
		}
	}
}

// TestH2ComeToAtItsWall: there it has come to a media time, and one ahead of it has not.
func TestH2ComeToAtItsWall(t *testing.T) {
	for _, p := range rightPaces() {
		for _, on := range []int{0, 1, 2, 3, 99, 100, 101, 12345, api.MaxTime} {
			media := min(p.Media+on, api.MaxTime)
			wall, e := pace.Wall(p, media)
			if e != api.OK || wall < p.Wall {
				t.Fatalf("Wall of %+v of %d is %d %d", p, media, wall, e)
			}
			if wall > api.MaxTime {
				// At the last time that may be asked about it has not come there yet.
				if m, e := pace.Media(p, api.MaxTime); m >= media || e != api.OK {
					t.Fatalf("Wall of %+v of %d is %d, but at MaxTime it is at %d %d", p, media, wall, m, e)
				}
				continue
			}
			if m, e := pace.Media(p, wall); m < media || e != api.OK {
				t.Fatalf("Wall of %+v of %d is %d, where it is at %d %d", p, media, wall, m, e)
			}
			if m, _ := pace.Media(p, wall-1); wall > p.Wall && m >= media {
				t.Fatalf("Wall of %+v of %d is %d, but at one less it is at %d", p, media, wall, m)
			}
		}
	}
}

// TestH2TurnToTheSameSpeed: it stays within one of where it would be, and never is ahead of it.
func TestH2TurnToTheSameSpeed(t *testing.T) {
	for _, p := range rightPaces() {
		for _, on := range []int{0, 1, 2, 3, 50, 99, 100, 101, 12345} {
			turned, e := pace.Turn(p, p.Wall+on, p.Num, p.Den)
			if e != api.OK {
				continue
			}
			for _, more := range []int{0, 1, 2, 3, 51, 98, 100, 12344} {
				would, e := pace.Media(p, p.Wall+on+more)
				is, f := pace.Media(turned, p.Wall+on+more)
				if e != f || is > would || would-is > 1 {
					t.Fatalf("%+v, turned by %d, is at %d %d by %d more, would be at %d %d", p, on, is, f, more, would, e)
				}
			}
		}
	}
}

func TestP3AnswersAreTheSameAgain(t *testing.T) {
	p := api.Pace{Wall: 10, Media: 100, Num: 3, Den: 2}
	for range 3 {
		for _, wrong := range wrongPaces() {
			pace.Media(wrong, 11)
			pace.Wall(wrong, 101)
			pace.Turn(wrong, 11, 5, 4)
		}
		wantMedia(t, p, 13, 104, api.OK)
		wantWall(t, p, 104, 13, api.OK)
		wantTurn(t, p, 13, 5, 4, api.Pace{Wall: 13, Media: 104, Num: 5, Den: 4}, api.OK)
	}
}
