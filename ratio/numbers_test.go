package ratio_test

import (
	"math"
	"testing"

	"stanza/ratio"
)

var (
	inf  = math.Inf(1)
	none = math.NaN()
	zero = math.Copysign(0, -1) // -0
)

const (
	greatest = math.MaxFloat64
	least    = math.SmallestNonzeroFloat64
	normal   = 0x1p-1022 // the least one with all of its bits
)

// nones are what is no number: of either sign bit, quiet and not, with few bits and with all.
func nones() []float64 {
	var l []float64
	for _, bits := range []uint64{0x7ff8000000000000, 0x7ff8000000000001, 0x7fffffffffffffff, 0x7ff0000000000001} {
		l = append(l, math.Float64frombits(bits), math.Float64frombits(bits|1<<63))
	}
	return append(l, none)
}

func above(r float64) float64 { return math.Nextafter(r, inf) }
func below(r float64) float64 { return math.Nextafter(r, -inf) }

// rising are numbers, each one above the one ahead of it, -0 ahead of 0.
func rising() []float64 {
	up := []float64{
		0, least, 2 * least, below(normal), normal, above(normal), 1e-160, 1e-9,
		below(0.5), 0.5, above(0.5), below(1), 1, above(1), 1.5, 2, 2.5, 3, 4.641588833612779, 100, 10000,
		1<<31 - 1.5, 1<<31 - 1, 1 << 31, 1<<53 - 1, 1 << 53, 1<<53 + 2, 1 << 63, 1e100, 1e160, below(greatest), greatest, inf,
	}
	var l []float64
	for i := range up {
		l = append(l, -up[len(up)-1-i])
	}
	l[len(l)-1] = zero
	return append(l, up...)
}

// edges are all of nones and of rising.
func edges() []float64 { return append(nones(), rising()...) }

// ints are some at all edges, those that no float64 is just among them.
func ints() []int {
	l := []int{0}
	for _, n := range []int{1, 2, 3, 7, 10, 49, 1000, 1<<31 - 1, 1 << 31, 1<<53 - 1, 1 << 53, 1<<53 + 1, 1<<53 + 2, 1<<53 + 3, 1<<54 + 2, 1<<54 + 6, 1<<62 + 1, math.MaxInt - 512, math.MaxInt - 511, math.MaxInt} {
		l = append(l, n, -n)
	}
	return append(l, math.MinInt)
}

// alike tells whether two are the same, bit by bit, or both no number.
func alike(a, b float64) bool {
	return math.IsNaN(a) && math.IsNaN(b) || math.Float64bits(a) == math.Float64bits(b)
}

func TestRising(t *testing.T) {
	l := rising()
	for i := 1; i < len(l); i++ {
		if l[i] <= l[i-1] && !(alike(l[i-1], zero) && alike(l[i], 0)) {
			t.Errorf("%v isn't above %v", l[i], l[i-1])
		}
	}
	for _, r := range nones() {
		if !math.IsNaN(r) {
			t.Errorf("%v is a number", r)
		}
	}
}

// The chapter's examples.
func TestExamples(t *testing.T) {
	if r := ratio.Of(1, 0); r != inf || ratio.Badness(r) != 10000 {
		t.Errorf("P12.1, P12.3: Of(1, 0) is %v, Badness %d", r, ratio.Badness(r))
	}
	if r := ratio.Of(0, 0); !math.IsNaN(r) || ratio.Badness(r) != 0 {
		t.Errorf("P12.1, P12.3: Of(0, 0) is %v, Badness %d", r, ratio.Badness(r))
	}
	if ratio.Badness(0.5) != 12 || ratio.Badness(-1) != 100 {
		t.Errorf("P12.3: %d, %d", ratio.Badness(0.5), ratio.Badness(-1))
	}
	if ratio.Round(2.5) != 2 {
		t.Errorf("P12.4: %d", ratio.Round(2.5))
	}
	if ratio.Order(zero, 0) != -1 {
		t.Errorf("P12.2: %d", ratio.Order(zero, 0))
	}
	if ratio.Blend(1, inf, 0) != 1 || !math.IsNaN(ratio.Mean(nil)) {
		t.Errorf("P12.5: %v, %v", ratio.Blend(1, inf, 0), ratio.Mean(nil))
	}
}
