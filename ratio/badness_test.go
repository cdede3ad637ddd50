package ratio_test

import (
	"math"
	"testing"

	"stanza/api"
	"stanza/ratio"
)

// bad holds Badness against what is wanted, of either sign.
func bad(t *testing.T, r float64, want int) {
	t.Helper()
	if got := ratio.Badness(r); got != want {
		t.Errorf("P12.3: Badness(%v) is %d, want %d", r, got, want)
	}
	if got := ratio.Badness(-r); got != want {
		t.Errorf("P12.3: Badness(%v) is %d, want %d", -r, got, want)
	}
}

// P12.3: no number, zeros, infinities, ordinary numbers, the least and the greatest.
func TestBadness(t *testing.T) {
	for _, n := range nones() {
		bad(t, n, 0)
	}
	bad(t, 0, 0)
	bad(t, zero, 0)
	bad(t, inf, api.MaxBad)
	bad(t, 0.1, 0)
	bad(t, 0.25, 1)
	bad(t, 0.5, 12)
	bad(t, 0.75, 42)
	bad(t, 1, 100)
	bad(t, 1.5, 337)
	bad(t, 2, 800)
	bad(t, 3, 2700)
	bad(t, 4, 6400)
	bad(t, 4.5, 9112)
	bad(t, 5, 10000)
	bad(t, 100, 10000)
	for _, r := range []float64{least, 2 * least, below(normal), normal, 1e-160, 1e-100, 1e-9} {
		bad(t, r, 0)
	}
	for _, r := range []float64{greatest, below(greatest), 1e160, 1e155, 1e103, 1e100, 1 << 63, 1 << 31} {
		bad(t, r, 10000)
	}
}

// P12.3: numbers just at where a whole one is come to, and just below.
func TestBadnessBesideWholes(t *testing.T) {
	bad(t, 1, 100)
	bad(t, below(1), 99)
	bad(t, 2, 800)
	bad(t, below(2), 799)
	bad(t, 3, 2700)
	bad(t, below(3), 2699)
	bad(t, 4, 6400)
	bad(t, below(4), 6399)
	bad(t, above(4), 6400)
}

// P12.3: where it isn't below 10000 any more.
func TestBadnessBesideMost(t *testing.T) {
	at := leastOf(t, 10000)
	bad(t, below(at), 9999)
	bad(t, at, 10000)
	bad(t, above(at), 10000)
	if math.Abs(at-math.Cbrt(100)) > 1e-14 {
		t.Errorf("10000 is come to at %v", at)
	}
	bad(t, 4.64158883361277, 9999)
	bad(t, 4.64158883361278, 10000)
	for whole := 10001; whole < 10100; whole++ {
		r := math.Cbrt(float64(whole) / 100)
		for range 32 {
			r = below(r)
		}
		for range 64 {
			bad(t, r, 10000)
			r = above(r)
		}
	}
}

// P12.3: numbers that made in another order, or rounded once, come to another whole one.
func TestBadnessOrder(t *testing.T) {
	bad(t, 0x1.b93a6cec0b3b1p-03, 0)
	bad(t, 0x1.793eace1a3426p-02, 5)
	bad(t, 0x1.f9148a2366562p-02, 12)
	bad(t, 0x1.1ba168a0c15f3p-01, 17)
	bad(t, 0x1.8859b5bd7e46cp-01, 44)
	bad(t, 0x1.ad6ccb1b3f11ep-01, 59)
	bad(t, 0x1.0b6dc8cdaab86p+00, 113)
	bad(t, 0x1.615dca678a82ep+00, 262)
	bad(t, 0x1.a04a46267f5f7p+00, 430)
	bad(t, 0x1.2905a68019259p+02, 9995)
}

// leastOf is the least number that is so bad, searched by exact products that are then rounded.
func leastOf(t *testing.T, whole int) float64 {
	t.Helper()
	about := math.Float64bits(math.Cbrt(float64(whole) / 100))
	from, to := about-32, about+32 // from isn't so bad yet, to is
	if slowBadness(math.Float64frombits(from)) >= whole || slowBadness(math.Float64frombits(to)) < whole {
		t.Fatalf("%d isn't come to beside %v", whole, math.Float64frombits(about))
	}
	for from+1 < to {
		if middle := (from + to) / 2; slowBadness(math.Float64frombits(middle)) < whole {
			from = middle
		} else {
			to = middle
		}
	}
	return math.Float64frombits(to)
}

// P12.3: just below and just at each whole number.
func TestBadnessEachWhole(t *testing.T) {
	for whole := 1; whole <= 10000; whole++ {
		at := leastOf(t, whole)
		bad(t, at, whole)
		bad(t, below(at), whole-1)
	}
}

// P12.3: what is looser is no better.
func TestBadnessRises(t *testing.T) {
	was := 0
	for i := range 60000 {
		now := ratio.Badness(float64(i) / 10000)
		if now < was || now > api.MaxBad {
			t.Fatalf("P12.3: Badness(%v) is %d behind %d", float64(i)/10000, now, was)
		}
		was = now
	}
	if was != 10000 {
		t.Errorf("P12.3: Badness of nearly 6 is %d", was)
	}
}
