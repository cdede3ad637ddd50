package ratio_test

import (
	"testing"

	"stanza/ratio"
)

// blends holds Blend against what is wanted, the sign of zeros included.
func blends(t *testing.T, a, b, so, want float64) {
	t.Helper()
	if got := ratio.Blend(a, b, so); !alike(got, want) {
		t.Errorf("P12.5: Blend(%v, %v, %v) is %v, want %v", a, b, so, got, want)
	}
}

// P12.5: at 0, -0 and 1 the one or the other, whatever stands beside it.
func TestBlendEnds(t *testing.T) {
	for _, a := range edges() {
		for _, b := range edges() {
			blends(t, a, b, 0, a)
			blends(t, a, b, zero, a)
			blends(t, a, b, 1, b)
		}
	}
	blends(t, 1, inf, 0, 1)
	blends(t, 1, none, zero, 1)
	blends(t, zero, 5, 0, zero)
	blends(t, -inf, 1, 1, 1)
	blends(t, none, zero, 1, zero)
}

// P12.5: between the ends, and beyond them.
func TestBlend(t *testing.T) {
	blends(t, 1, 3, 0.5, 2)
	blends(t, 1, 3, 0.25, 1.5)
	blends(t, 1, 3, 0.75, 2.5)
	blends(t, -8, 8, 0.125, -6)
	blends(t, 1, 3, 2, 5)
	blends(t, 1, 3, -1, -1)
	blends(t, 1, 3, -0.5, 0)
	blends(t, 7, 7, 0.5, 7)
	blends(t, zero, zero, 0.5, zero)
	blends(t, zero, 0, 0.5, 0)
	blends(t, 0, zero, 2, zero)
	blends(t, greatest, greatest, 0.5, greatest)
	blends(t, -greatest, greatest, 0.5, 0)
	blends(t, greatest, -greatest, 2, -inf)
	blends(t, greatest, greatest, 3, none)
	blends(t, least, least, 0.5, 0)
	blends(t, least, 3*least, 0.5, 2*least)
}

// P12.5: infinities and what is no number, where neither end is come to.
func TestBlendEdges(t *testing.T) {
	blends(t, 1, inf, 0.5, inf)
	blends(t, inf, 1, 0.5, inf)
	blends(t, -inf, inf, 0.5, none)
	blends(t, inf, inf, 0.5, inf)
	blends(t, inf, inf, 2, none)
	blends(t, inf, -inf, 2, -inf)
	blends(t, 1, 2, inf, none)
	blends(t, -1, 2, inf, inf)
	blends(t, 1, -2, inf, -inf)
	blends(t, 0, 1, inf, none)
	blends(t, 1, 0, -inf, none)
	blends(t, 2, -1, -inf, inf)
	blends(t, 1, 1, least, 1)
	for _, n := range nones() {
		for _, r := range edges() {
			blends(t, r, 1, n, none)
			blends(t, 1, r, n, none)
			blends(t, n, r, 0.5, none)
			blends(t, r, n, 0.5, none)
		}
	}
	blends(t, none, 1, above(0), none)
	blends(t, none, 1, -least, none)
	blends(t, none, 1, below(1), none)
	blends(t, none, 1, above(1), none)
	blends(t, 1, inf, least, inf)
	blends(t, inf, 1, below(1), inf)
	blends(t, inf, 1, above(1), -inf)
}

// P12.5: each step is rounded by itself: all edges, and many numbers, held against exact ones that are then rounded.
func TestBlendAgainstSlow(t *testing.T) {
	few := []float64{none, -inf, -greatest, -3, -1, -normal, -least, zero, 0, least, 1e-160, below(0.5), 0.1, 1, above(1), 1.5, 2, 1 << 53, 1e160, greatest, inf}
	for _, a := range few {
		for _, b := range few {
			for _, so := range append([]float64{0.25, 0.3, below(1)}, few...) {
				blends(t, a, b, so, slowBlend(a, b, so))
			}
		}
	}
	d := dice(5)
	for range 30000 {
		a, b, so := d.number(), d.number(), d.number()
		blends(t, a, b, so, slowBlend(a, b, so))
	}
}

// P12.5: many numbers for which a product that isn't rounded, or another way to the same place, leads elsewhere.
func TestBlendRoundsEach(t *testing.T) {
	d := dice(6)
	var other [4]int
	for range 3000 {
		a, b, so := d.part(), d.part(), d.part()
		want := slowBlend(a, b, so)
		blends(t, a, b, so, want)
		for i, r := range otherBlends(a, b, so) {
			if r != want {
				other[i]++
			}
		}
	}
	for i, n := range other {
		if n < 300 {
			t.Errorf("too few numbers tell the way %d from the promise's: %d", i, n)
		}
	}
}

// mean holds Mean against what is wanted, the sign of zeros included.
func mean(t *testing.T, want float64, l ...float64) {
	t.Helper()
	if got := ratio.Mean(l); !alike(got, want) {
		t.Errorf("P12.5: Mean(%v) is %v, want %v", l, got, want)
	}
}

// P12.5: none, one, several.
func TestMean(t *testing.T) {
	mean(t, none)
	if got := ratio.Mean([]float64{}); !alike(got, none) || !alike(ratio.Mean(nil), none) {
		t.Errorf("P12.5, R5: Mean of none: %v, %v", got, ratio.Mean(nil))
	}
	for _, r := range edges() {
		if alike(r, zero) {
			continue
		}
		mean(t, r, r)
	}
	mean(t, 1.5, 1, 2)
	mean(t, 2, 1, 2, 3)
	mean(t, -0.25, -1, 0, 1, -1)
	mean(t, 0x1.5555555555555p+0, 1, 1, 2)
	mean(t, 0, 1, -1)
}

// P12.5: the sum begins at 0, so that no -0 is left.
func TestMeanZeros(t *testing.T) {
	mean(t, 0, zero)
	mean(t, 0, zero, zero)
	mean(t, 0, zero, 0, zero)
	mean(t, 0, 0)
	mean(t, zero, -least, zero)
}

// P12.5: infinities, what is no number, sums beyond the greatest number.
func TestMeanEdges(t *testing.T) {
	mean(t, inf, 1, inf, -5)
	mean(t, -inf, 1, -inf, -5)
	mean(t, inf, inf, inf)
	mean(t, none, inf, -inf)
	mean(t, none, -inf, 1, inf, 1)
	for _, n := range nones() {
		mean(t, none, n)
		mean(t, none, 1, n)
		mean(t, none, n, 1, inf)
	}
	mean(t, inf, greatest, greatest)
	mean(t, -inf, -greatest, -greatest)
	mean(t, inf, greatest, greatest, -greatest, -greatest)
	mean(t, 0, greatest, -greatest, greatest, -greatest)
	mean(t, none, greatest, greatest, -inf)
	mean(t, greatest/2, greatest, 0)
	mean(t, zero, -least, 0)
}

// P12.5: the sum goes from the first one on, each step rounded.
func TestMeanOrder(t *testing.T) {
	mean(t, 0, 1<<53, 1, -1<<53)
	mean(t, 0x1.5555555555555p-2, 1<<53, -1<<53, 1)
	mean(t, 0x1.5555555555555p-2, -1<<53, 1<<53, 1)
	mean(t, 0x1p51, 1<<53, 1, 1, 1)
	mean(t, 0x1.0000000000001p51, 1, 1, 1<<53, 0)
}

// P12.5: many lists, held against exact sums that are rounded at each step.
func TestMeanAgainstSlow(t *testing.T) {
	d := dice(7)
	for range 10000 {
		l := make([]float64, d.roll(12))
		for i := range l {
			if d.roll(4) == 0 {
				l[i] = d.number()
			} else {
				l[i] = d.part()
			}
		}
		mean(t, slowMean(l), l...)
	}
	few := []float64{none, -inf, -greatest, -1, zero, 0, least, 1 << 53, greatest, inf}
	for _, a := range few {
		for _, b := range few {
			for _, c := range few {
				mean(t, slowMean([]float64{a, b, c}), a, b, c)
			}
		}
	}
}
