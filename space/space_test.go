package space_test

import (
	"math"
	"testing"

	"engram/api"
	"engram/delta"
	"engram/space"
)

var strange = []int{math.MinInt, math.MinInt + 1, -65, -64, -1, 0, 1, 2, 63, 64, 65, 66, 1 << 31, math.MaxInt/64 + 1, math.MaxInt - 1, math.MaxInt}

// P6.1: Size

func TestSize(t *testing.T) {
	for log := 1; log <= 64; log++ {
		if got := space.Size(api.Root{Log: log}); got != 64*log {
			t.Errorf("Size of %d sectors is %d", log, got)
		}
	}
	for _, log := range strange {
		if got := space.Size(api.Root{Log: log, Pages: 1, Epoch: 1}); (log < 1 || log > 64) && got != 0 {
			t.Errorf("Size of %d sectors is %d", log, got)
		}
	}
}

// P6.1: Left

func TestLeft(t *testing.T) {
	for _, c := range []struct{ log, used, want int }{
		{2, 0, 128}, {2, 1, 127}, {2, 127, 1}, {2, 128, 0}, {2, 129, 0}, {2, math.MaxInt, 0},
		{2, -1, 128}, {2, -128, 128}, {2, math.MinInt, 128}, {64, 4095, 1}, {64, 5000, 0},
		{0, 0, 0}, {65, 0, 0}, {-1, -1, 0}, {0, math.MinInt, 0}, {65, math.MaxInt, 0},
	} {
		if got := space.Left(api.Root{Log: c.log, Pages: 1, Epoch: 1}, c.used); got != c.want {
			t.Errorf("Left(%d, %d) is %d, not %d", c.log, c.used, got, c.want)
		}
	}
}

// P6.1: Fits

func TestFits(t *testing.T) {
	for _, c := range []struct {
		log, used, changes int
		want               bool
	}{
		{1, 0, 0, true}, {1, 46, 0, true}, {1, 47, 0, false}, {1, 64, 0, false}, {1, 0, 1, false},
		{2, 0, 1, true}, {2, 44, 1, true}, {2, 45, 1, false}, {2, -9, 1, true}, {2, math.MinInt, 1, true}, {2, 0, 2, false},
		{64, 0, 61, true}, {64, 0, 62, false}, {64, 52, 61, true}, {64, 53, 61, false}, {64, 0, 64, false},
		{64, 0, -1, false}, {64, 0, 65, false}, {64, 0, math.MinInt, false}, {64, 0, math.MaxInt, false}, {64, math.MaxInt, 0, false},
		{64, 4096, 0, false}, {64, 4096 - 18, 0, true}, {0, 0, 0, false}, {65, 0, 0, false}, {-1, 0, 0, false}, {-1, math.MinInt, -1, false},
	} {
		if got := space.Fits(api.Root{Log: c.log, Pages: 64, Epoch: 1}, c.used, c.changes); got != c.want {
			t.Errorf("Fits(%d, %d, %d) is %v", c.log, c.used, c.changes, got)
		}
	}
}

func TestFitsDoesNotAskForPages(t *testing.T) {
	for _, pages := range []int{-1, 0, 1, 1000} {
		if !space.Fits(api.Root{Log: 64, Pages: pages}, 0, 61) {
			t.Errorf("Fits of %d pages", pages)
		}
	}
}

func TestFitsAtEachEdge(t *testing.T) {
	for log := 1; log <= 64; log++ {
		for n := range 65 {
			room := 64*log - 18 - 66*n
			r := api.Root{Log: log, Pages: 64, Epoch: 1}
			if room >= 0 && (!space.Fits(r, room, n) || space.Fits(r, room+1, n)) || room < 0 && space.Fits(r, 0, n) {
				t.Errorf("Fits(%d, %d, %d)", log, room, n)
			}
		}
	}
}

// P6.1: Most

func TestMost(t *testing.T) {
	for _, c := range []struct{ log, pages, want int }{
		{1, 0, 0}, {1, 1, 0}, {1, 64, 0}, {2, 0, 0}, {2, 1, 1}, {2, 64, 1}, {3, 64, 2}, {4, 64, 3}, {34, 64, 32}, {64, 64, 61},
		{64, 61, 61}, {64, 60, 60}, {64, 1, 1}, {64, 0, 0}, {64, 65, 61}, {64, 1000, 61}, {64, math.MaxInt, 61}, {1, math.MaxInt, 0},
		{0, 1, -1}, {65, 1, -1}, {-1, 64, -1}, {math.MaxInt, math.MaxInt, -1}, {64, -1, -1}, {64, math.MinInt, -1}, {0, 0, -1},
	} {
		if got := space.Most(api.Root{Log: c.log, Pages: c.pages, Epoch: 1}); got != c.want {
			t.Errorf("Most(%d %d) is %d, not %d", c.log, c.pages, got, c.want)
		}
	}
}

func TestMostIsTheGreatestThatFits(t *testing.T) {
	for log := -1; log <= 66; log++ {
		for pages := -1; pages <= 66; pages++ {
			r := api.Root{Log: log, Pages: pages, Epoch: 1}
			want := -1
			for n := range pages + 1 {
				if need := delta.Need(n); log >= 1 && log <= 64 && need > 0 && need <= 64*log {
					want = n
				}
			}
			if got := space.Most(r); got != want {
				t.Errorf("Most(%d %d) is %d, not %d", log, pages, got, want)
			}
		}
	}
}

// R1

func TestAnyNumbersAreTaken(t *testing.T) {
	for _, log := range strange {
		for _, pages := range strange {
			for _, n := range strange {
				r := api.Root{Log: log, Pages: pages}
				left := space.Left(r, n)
				if left < 0 || left > space.Size(r) || space.Most(r) < -1 || space.Fits(r, n, n) && n < 0 {
					t.Errorf("%v %d", r, n)
				}
			}
		}
	}
}
