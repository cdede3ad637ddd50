package span_test

import (
	"math"
	"testing"

	"stanza/api"
	"stanza/span"
)

// way is a right one, whose numbers are all unlike.
func way() api.Config {
	return api.Config{Width: 80, Tab: 8, Mode: api.Best, Hyphen: 50, Pair: 30, Loose: 1.5}
}

// checks holds Check against what is wanted.
func checks(t *testing.T, c api.Config, want bool) {
	t.Helper()
	if span.Check(c) != want {
		t.Errorf("P13.1: Check is %v: %+v", !want, c)
	}
}

// beside are ints at a number's edges, and at those of int, of its lower halves too.
func beside(least, most int) []int {
	return []int{
		math.MinInt, math.MinInt + 1, math.MinInt + most, math.MinInt32, -most, -2, -1, 0, 1, 2,
		least - 1, least, least + 1, most - 1, most, most + 1, most + 2, 2 * most,
		math.MaxInt32, 1 << 32, 1<<32 + 1, 1<<32 + most, 1<<40 + 1, math.MaxInt - 1, math.MaxInt,
	}
}

// P13.1: ways that are right.
func TestCheckRight(t *testing.T) {
	checks(t, way(), true)
	checks(t, api.Config{Width: 1, Tab: 1}, true)
	checks(t, api.Config{Width: 1 << 20, Tab: 64, Mode: api.Best, Hyphen: 1 << 20, Pair: 1 << 20, Loose: math.MaxFloat64}, true)
	checks(t, api.Config{Width: 3, Tab: 64, Pair: 1}, true)
	checks(t, api.Config{Width: 1 << 20, Tab: 1, Hyphen: 1}, true)
}

// P13.1: a way of zeros has neither a width nor a tab.
func TestCheckZeros(t *testing.T) {
	checks(t, api.Config{}, false)
	checks(t, api.Config{Width: 1}, false)
	checks(t, api.Config{Tab: 1}, false)
}

// P13.1: Width is from 1 to 2^20.
func TestCheckWidth(t *testing.T) {
	for _, n := range beside(1, 1<<20) {
		c := way()
		c.Width = n
		checks(t, c, n >= 1 && n <= 1048576)
	}
}

// P13.1: Tab is from 1 to 64.
func TestCheckTab(t *testing.T) {
	for n := -200; n < 1000; n++ {
		c := way()
		c.Tab = n
		checks(t, c, n >= 1 && n <= 64)
	}
	for _, n := range beside(1, 64) {
		c := way()
		c.Tab = n
		checks(t, c, n >= 1 && n <= 64)
	}
}

// P13.1: Mode is First or Best.
func TestCheckMode(t *testing.T) {
	for n := range 256 {
		c := way()
		c.Mode = api.Mode(n)
		checks(t, c, n == 0 || n == 1)
	}
}

// P13.1: Hyphen is from 0 to 2^20.
func TestCheckHyphen(t *testing.T) {
	for _, n := range beside(0, 1<<20) {
		c := way()
		c.Hyphen = n
		checks(t, c, n >= 0 && n <= 1048576)
	}
}

// P13.1: Pair is from 0 to 2^20.
func TestCheckPair(t *testing.T) {
	for _, n := range beside(0, 1<<20) {
		c := way()
		c.Pair = n
		checks(t, c, n >= 0 && n <= 1048576)
	}
}

// looses are numbers of all kinds, and what is none, of either sign bit.
func looses() []float64 {
	l := []float64{math.NaN(), math.Float64frombits(0xfff8000000000001), math.Float64frombits(0x7ff0000000000001)}
	for _, r := range []float64{0, math.SmallestNonzeroFloat64, 0.5, 1, 2.5, 1 << 20, 1<<20 + 1, 1 << 63, math.MaxFloat64, math.Inf(1)} {
		l = append(l, r, -r)
	}
	return append(l, math.Copysign(0, -1))
}

// P13.1: Loose may be any number, and what is none: it makes no way wrong, and none right.
func TestCheckLoose(t *testing.T) {
	for _, r := range looses() {
		c := way()
		c.Loose = r
		checks(t, c, true)
		c.Mode = api.First
		checks(t, c, true)
		c.Mode = 2
		checks(t, c, false)
		for _, wrong := range []api.Config{{}, {Width: 1, Tab: 65}, {Width: 1<<20 + 1, Tab: 1}, {Width: 1, Tab: 1, Hyphen: -1}, {Width: 1, Tab: 1, Pair: -1}} {
			wrong.Loose = r
			checks(t, wrong, false)
		}
	}
}

// P13.1: each number just within and just outside its bounds beside each of the others: it is right only if all are.
func TestCheckSeveral(t *testing.T) {
	costs := []int{math.MinInt, -1, 0, 1 << 20, 1<<20 + 1, math.MaxInt}
	rights := 0
	for _, width := range []int{math.MinInt, -1, 0, 1, 1 << 20, 1<<20 + 1, math.MaxInt} {
		for _, tab := range []int{math.MinInt, -1, 0, 1, 64, 65, math.MaxInt} {
			for _, mode := range []api.Mode{0, 1, 2, 255} {
				for _, hyphen := range costs {
					for _, pair := range costs {
						right := (width == 1 || width == 1<<20) && (tab == 1 || tab == 64) && mode < 2 &&
							(hyphen == 0 || hyphen == 1<<20) && (pair == 0 || pair == 1<<20)
						if right {
							rights++
						}
						checks(t, api.Config{Width: width, Tab: tab, Mode: mode, Hyphen: hyphen, Pair: pair, Loose: math.NaN()}, right)
					}
				}
			}
		}
	}
	if rights != 32 {
		t.Errorf("%d right ways", rights)
	}
}
