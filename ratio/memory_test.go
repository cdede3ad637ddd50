package ratio_test

import (
	"slices"
	"testing"

	"stanza/ratio"
)

// R6: the lists that are handed in aren't changed, spare room included; nor is that room read.
func TestHandedInStays(t *testing.T) {
	d := dice(9)
	for n := range 9 {
		for range 50 {
			l := make([]float64, n, n+3)
			for i := range l {
				l[i] = edges()[d.roll(len(edges()))]
			}
			room := append(l, inf, none, zero)
			was := slices.Clone(room)
			place, middle := ratio.Greatest(l), ratio.Mean(l)
			if !slices.EqualFunc(room, was, alike) {
				t.Fatalf("R6: %v became %v", was, room)
			}
			short := slices.Clip(slices.Clone(l))
			if place != ratio.Greatest(short) || !alike(middle, ratio.Mean(short)) {
				t.Fatalf("R6: spare room says something: %v: %d, %v", l, place, middle)
			}
		}
	}
}

// R8: other asks in between, and lists that are changed behind a call, change no answer.
func TestAsksStandApart(t *testing.T) {
	l := []float64{1, 4, none, 4}
	for range 3 {
		if ratio.Greatest(l) != 1 || !alike(ratio.Mean(l), none) {
			t.Errorf("R8: %v: %d, %v", l, ratio.Greatest(l), ratio.Mean(l))
		}
		l[0], l[2] = 5, -2
		if ratio.Greatest(l) != 0 || ratio.Mean(l) != 2.75 {
			t.Errorf("R8: %v: %d, %v", l, ratio.Greatest(l), ratio.Mean(l))
		}
		l[0], l[2] = 1, none
		if ratio.Of(1, 2) != 0.5 || ratio.Badness(0.5) != 12 || ratio.Round(1.5) != 2 || ratio.Blend(1, 3, 0.5) != 2 || ratio.Order(1, 2) != -1 || !ratio.Fits(1, 2) {
			t.Error("R8: an ask in between")
		}
	}
}

// P1: every call ends and none panics at all edges.
func TestEveryCallEnds(t *testing.T) {
	for _, a := range edges() {
		if n := ratio.Badness(a); n < 0 || n > 10000 {
			t.Errorf("P12.3: Badness(%v) is %d", a, n)
		}
		if n := ratio.Round(a); n < -1<<31 || n > 1<<31-1 {
			t.Errorf("P12.4: Round(%v) is %d", a, n)
		}
		for _, b := range edges() {
			if n := ratio.Order(a, b); n < -1 || n > 1 {
				t.Errorf("P12.2: Order(%v, %v) is %d", a, b, n)
			}
			if n := ratio.Greatest([]float64{a, b}); n != 0 && n != 1 {
				t.Errorf("P12.2: Greatest of %v and %v is %d", a, b, n)
			}
			ratio.Fits(a, b)
			ratio.Mean([]float64{a, b})
			for _, so := range edges() {
				ratio.Blend(a, b, so)
			}
		}
	}
}
