package ratio_test

import (
	"math"
	"testing"

	"stanza/ratio"
)

// rounds holds Round against what is wanted.
func rounds(t *testing.T, r float64, want int) {
	t.Helper()
	if got := ratio.Round(r); got != want {
		t.Errorf("P12.4: Round(%v) is %d, want %d", r, got, want)
	}
}

const most, fewest = 1<<31 - 1, -1 << 31

// P12.4: no number, zeros, whole ones, the least numbers.
func TestRound(t *testing.T) {
	for _, n := range nones() {
		rounds(t, n, 0)
	}
	rounds(t, 0, 0)
	rounds(t, zero, 0)
	for _, r := range []float64{least, below(normal), normal, 1e-160, 0.1, 0.4} {
		rounds(t, r, 0)
		rounds(t, -r, 0)
	}
	for n := -1000; n <= 1000; n++ {
		rounds(t, float64(n), n)
		rounds(t, float64(n)+0.25, n)
		rounds(t, float64(n)-0.25, n)
	}
}

// P12.4: halves go to the even one, of either sign; numbers beside them to the nearest.
func TestRoundHalves(t *testing.T) {
	rounds(t, 0.5, 0)
	rounds(t, 1.5, 2)
	rounds(t, 2.5, 2)
	rounds(t, 3.5, 4)
	rounds(t, -0.5, 0)
	rounds(t, -1.5, -2)
	rounds(t, -2.5, -2)
	rounds(t, -3.5, -4)
	rounds(t, below(0.5), 0)
	rounds(t, above(0.5), 1)
	rounds(t, above(-0.5), 0)
	rounds(t, below(-0.5), -1)
	for _, from := range []int{-1 << 31, -1 << 24, -1 << 16, -100, 1 << 16, 1 << 24, most - 101} {
		for n := from; n < from+101; n++ {
			half := float64(n) + 0.5
			rounds(t, half, n+n&1)
			rounds(t, below(half), n)
			rounds(t, above(half), n+1)
		}
	}
}

// P12.4: at and beside 2^31 - 1 and -2^31, and far beyond.
func TestRoundBounds(t *testing.T) {
	rounds(t, most-1.5, most-1)
	rounds(t, most-1, most-1)
	rounds(t, most-0.5, most-1)
	rounds(t, above(most-0.5), most)
	rounds(t, below(most), most)
	rounds(t, most, most)
	rounds(t, above(most), most)
	rounds(t, most+0.5, most)
	rounds(t, 1<<31, most)
	rounds(t, fewest+1.5, fewest+2)
	rounds(t, fewest+1, fewest+1)
	rounds(t, above(fewest+0.5), fewest+1)
	rounds(t, fewest+0.5, fewest)
	rounds(t, above(fewest), fewest)
	rounds(t, fewest, fewest)
	rounds(t, below(fewest), fewest)
	rounds(t, fewest-0.5, fewest)
	rounds(t, fewest-1, fewest)
	for _, r := range []float64{1 << 32, 1 << 53, 1 << 62, 1 << 63, 1 << 64, 1e100, greatest, inf} {
		rounds(t, r, most)
		rounds(t, -r, fewest)
	}
	rounds(t, float64(math.MaxInt), most)
	rounds(t, float64(math.MinInt), fewest)
}
