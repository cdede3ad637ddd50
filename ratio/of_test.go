package ratio_test

import (
	"math"
	"testing"

	"stanza/ratio"
)

// of holds Of against what is wanted, the sign of zeros included.
func of(t *testing.T, room, gaps int, want float64) {
	t.Helper()
	if got := ratio.Of(room, gaps); !alike(got, want) {
		t.Errorf("P12.1: Of(%d, %d) is %v, want %v", room, gaps, got, want)
	}
}

// P12.1: room above, below and at 0, with gaps above, below and at 0.
func TestOf(t *testing.T) {
	of(t, 1, 2, 0.5)
	of(t, -1, 2, -0.5)
	of(t, 1, -2, -0.5)
	of(t, -1, -2, 0.5)
	of(t, 7, 7, 1)
	of(t, 9, 2, 4.5)
	of(t, 1, 3, 0x1.5555555555555p-2)
	of(t, 2, 3, 0x1.5555555555555p-1)
	of(t, 5, 49, 0x1.a1f58d0fac688p-4)
	of(t, 0, 5, 0)
	of(t, 0, -5, zero)
}

// P12.1: of no gaps an infinity with room's sign; of no room and no gaps no number.
func TestOfNoGaps(t *testing.T) {
	for _, room := range ints() {
		switch {
		case room > 0:
			of(t, room, 0, inf)
		case room < 0:
			of(t, room, 0, -inf)
		default:
			of(t, room, 0, none)
		}
	}
}

// P12.1, R1: the least and the greatest int, and ints that no float64 is just: each is rounded ahead of the division.
func TestOfGreatInts(t *testing.T) {
	of(t, math.MaxInt, 1, 1<<63)
	of(t, math.MinInt, 1, -1<<63)
	of(t, math.MinInt, -1, 1<<63)
	of(t, math.MaxInt, math.MaxInt, 1)
	of(t, math.MinInt, math.MinInt, 1)
	of(t, math.MinInt, math.MaxInt, -1)
	of(t, math.MaxInt, math.MinInt, -1)
	of(t, 1, math.MinInt, -0x1p-63)
	of(t, 1, math.MaxInt, 0x1p-63)
	of(t, 0, math.MinInt, zero)
	of(t, 0, math.MaxInt, 0)
	of(t, 1<<53+1, 1, 1<<53)
	of(t, -1<<53-1, 1, -1<<53)
	of(t, 1<<53+3, 1, 1<<53+4)
	of(t, 1<<53+1, 1<<53, 1)
	of(t, 1<<53, 1<<53+1, 1)
	of(t, 1<<53+3, 1<<53+1, 1+0x1p-51)
	of(t, math.MaxInt-512, 1, 1<<63-1024)
	of(t, math.MaxInt-511, 1, 1<<63)
}

// fits holds Fits against what is wanted.
func fits(t *testing.T, r, most float64, want bool) {
	t.Helper()
	if got := ratio.Fits(r, most); got != want {
		t.Errorf("P12.1: Fits(%v, %v) is %v", r, most, got)
	}
}

// P12.1: numbers above, at and below most, all edges beside each other; the two zeros are alike.
func TestFits(t *testing.T) {
	l := rising()
	for i, r := range l {
		for k, most := range l {
			fits(t, r, most, i <= k || r == 0 && most == 0)
		}
	}
	fits(t, 0, zero, true)
	fits(t, zero, 0, true)
	fits(t, inf, inf, true)
	fits(t, -inf, -inf, true)
	fits(t, inf, greatest, false)
	fits(t, greatest, inf, true)
	fits(t, above(2), 2, false)
	fits(t, 2, 2, true)
	fits(t, below(2), 2, true)
}

// P12.1: where either one is no number, or both.
func TestFitsNone(t *testing.T) {
	for _, n := range nones() {
		for _, r := range edges() {
			fits(t, r, n, true)
			fits(t, n, r, true)
		}
	}
}
