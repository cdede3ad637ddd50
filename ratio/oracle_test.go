package ratio_test

import (
	"math"
	"math/big"
	"testing"

	"stanza/ratio"
)

// The tests of this file hold ratio against slow answers of another make: each operation is made with exact fractions, and its result then rounded; what has no fraction (infinities, what is no number, the sign of a zero) is told by cases.

func isInf(r float64) bool { return math.IsInf(r, 0) }

// exact is a number as a fraction.
func exact(r float64) *big.Rat { return new(big.Rat).SetFloat64(r) }

// rounded is the nearest number to a fraction, of two the even one, a zero with that sign.
func rounded(x *big.Rat, minus bool) float64 {
	r, _ := x.Float64()
	if r == 0 {
		return signed(0, minus)
	}
	return r
}

// signed is a number that has no sign yet, with that one.
func signed(r float64, minus bool) float64 {
	if minus {
		return -r
	}
	return r
}

func slowTimes(a, b float64) float64 {
	minus := math.Signbit(a) != math.Signbit(b)
	switch {
	case math.IsNaN(a) || math.IsNaN(b) || isInf(a) && b == 0 || a == 0 && isInf(b):
		return none
	case isInf(a) || isInf(b):
		return signed(inf, minus)
	}
	return rounded(new(big.Rat).Mul(exact(a), exact(b)), minus)
}

func slowThrough(a, b float64) float64 {
	minus := math.Signbit(a) != math.Signbit(b)
	switch {
	case math.IsNaN(a) || math.IsNaN(b) || isInf(a) && isInf(b) || a == 0 && b == 0:
		return none
	case isInf(a) || b == 0:
		return signed(inf, minus)
	case isInf(b):
		return signed(0, minus)
	}
	return rounded(new(big.Rat).Quo(exact(a), exact(b)), minus)
}

func slowPlus(a, b float64) float64 {
	switch {
	case math.IsNaN(a) || math.IsNaN(b) || isInf(a) && isInf(b) && a != b:
		return none
	case isInf(a):
		return a
	case isInf(b):
		return b
	}
	return rounded(new(big.Rat).Add(exact(a), exact(b)), math.Signbit(a) && math.Signbit(b))
}

func slowInt(n int) float64 { return rounded(new(big.Rat).SetInt64(int64(n)), false) }

func slowOf(room, gaps int) float64 { return slowThrough(slowInt(room), slowInt(gaps)) }

func slowBadness(r float64) int {
	if math.IsNaN(r) {
		return 0
	}
	a := r
	if math.Signbit(a) {
		a = -a
	}
	product := slowTimes(slowTimes(slowTimes(100, a), a), a)
	if isInf(product) {
		return 10000
	}
	x := exact(product)
	whole := new(big.Int).Quo(x.Num(), x.Denom())
	if whole.Cmp(big.NewInt(10000)) > 0 {
		return 10000
	}
	return int(whole.Int64())
}

func slowRound(r float64) int {
	switch {
	case math.IsNaN(r):
		return 0
	case isInf(r):
		r = signed(greatest, r < 0)
	}
	x := exact(r)
	low, rest := new(big.Int).DivMod(x.Num(), x.Denom(), new(big.Int))
	side := new(big.Int).Lsh(rest, 1).Cmp(x.Denom())
	if side > 0 || side == 0 && low.Bit(0) == 1 {
		low.Add(low, big.NewInt(1))
	}
	if bound := big.NewInt(1<<31 - 1); low.Cmp(bound) > 0 {
		low = bound
	}
	if bound := big.NewInt(-1 << 31); low.Cmp(bound) < 0 {
		low = bound
	}
	return int(low.Int64())
}

func slowBlend(a, b, so float64) float64 {
	switch so {
	case 0:
		return a
	case 1:
		return b
	}
	return slowPlus(slowTimes(a, slowPlus(1, -so)), slowTimes(b, so))
}

// otherBlends are ways to nearly the same place, that the promise isn't of: a product that isn't rounded, either one, and other sums.
func otherBlends(a, b, so float64) [4]float64 {
	return [4]float64{
		math.FMA(a, 1-so, float64(b*so)),
		math.FMA(b, so, float64(a*(1-so))),
		a + float64((b-a)*so),
		float64(a-float64(a*so)) + float64(b*so),
	}
}

func slowMean(l []float64) float64 {
	sum := 0.0
	for _, r := range l {
		sum = slowPlus(sum, r)
	}
	return slowThrough(sum, slowInt(len(l)))
}

// slowOrder ranks the bits, turned so that they rise with the numbers.
func slowOrder(a, b float64) int {
	return big.NewInt(rank(a)).Cmp(big.NewInt(rank(b)))
}

func rank(r float64) int64 {
	if math.IsNaN(r) {
		return math.MinInt64
	}
	n := int64(math.Float64bits(r) &^ (1 << 63))
	if math.Signbit(r) {
		return -1 - n
	}
	return n
}

type dice uint64

func (d *dice) bits() uint64 {
	*d = *d*6364136223846793005 + 1442695040888963407
	x := uint64(*d)
	x ^= x >> 29
	return x * 0x9e3779b97f4a7c15
}

func (d *dice) roll(n int) int { return int(d.bits()>>33) % n }

// part is a number from 0 to 1 with many bits.
func (d *dice) part() float64 { return float64(d.bits()>>11) * 0x1p-53 }

// number is any one, of all sizes, edges among them.
func (d *dice) number() float64 {
	switch d.roll(4) {
	case 0:
		return edges()[d.roll(len(edges()))]
	case 1:
		return math.Float64frombits(d.bits())
	case 2:
		return (d.part() - 0.5) * 16
	}
	return float64(int64(d.bits()) >> d.roll(64))
}

// holdAgainst holds each call that is asked of three numbers at most against its slow answer.
func holdAgainst(t *testing.T, a, b, so float64) {
	t.Helper()
	order(t, a, b, slowOrder(a, b))
	fits(t, a, b, math.IsNaN(a) || math.IsNaN(b) || a == b || slowOrder(a, b) < 0)
	if got := ratio.Badness(a); got != slowBadness(a) {
		t.Errorf("P12.3: Badness(%v) is %d, want %d", a, got, slowBadness(a))
	}
	rounds(t, a, slowRound(a))
	blends(t, a, b, so, slowBlend(a, b, so))
	mean(t, slowMean([]float64{a, b, so}), a, b, so)
	mean(t, slowMean([]float64{so, a}), so, a)
	want := 0
	for i, r := range []float64{b, so} {
		if slowOrder(r, []float64{a, b, so}[want]) > 0 {
			want = i + 1
		}
	}
	first(t, want, a, b, so)
}

// TestAgainstSlow: many numbers of all sizes.
func TestAgainstSlow(t *testing.T) {
	d := dice(12)
	for range 20000 {
		holdAgainst(t, d.number(), d.number(), d.number())
	}
	for _, a := range edges() {
		for _, b := range rising() {
			holdAgainst(t, a, b, 0.75)
		}
	}
}

// TestOfAgainstSlow: ints at all edges, and many of all sizes.
func TestOfAgainstSlow(t *testing.T) {
	for _, room := range ints() {
		for _, gaps := range ints() {
			of(t, room, gaps, slowOf(room, gaps))
		}
	}
	d := dice(13)
	for range 30000 {
		room, gaps := int(d.bits())>>d.roll(64), int(d.bits())>>d.roll(64)
		of(t, room, gaps, slowOf(room, gaps))
	}
}

func FuzzNumbers(f *testing.F) {
	f.Add(0.5, 2.5, 0.25, 1, 0)
	f.Add(inf, none, zero, math.MinInt, -1)
	f.Add(4.641588833612779, greatest, least, 1<<53+1, 3)
	f.Fuzz(func(t *testing.T, a, b, so float64, room, gaps int) {
		holdAgainst(t, a, b, so)
		of(t, room, gaps, slowOf(room, gaps))
	})
}
