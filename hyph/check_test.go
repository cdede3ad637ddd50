package hyph_test

import (
	"math"
	"slices"
	"strings"
	"testing"

	"stanza/api"
	"stanza/hyph"
)

// many are so many ranges of 5 signs, 10 apart, that lead ever lower.
func many(n int) []api.Range {
	l := make([]api.Range, n)
	for i := range l {
		l[i] = api.Range{Lo: int32(10 * i), Hi: int32(10*i + 4), To: 5000 - 10*i}
	}
	return l
}

// checks holds Check of ranges against what is wanted, and that New says the same.
func checks(t *testing.T, want bool, l ...api.Range) {
	t.Helper()
	if got := hyph.Check(l); got != want {
		t.Errorf("P9.1: %v: %v", l, got)
	}
	h, f := hyph.New("", l, 1, 1)
	if want && (h == nil || f != (api.Fault{})) || !want && (h != nil || f != (api.Fault{Code: api.ErrTable})) {
		t.Errorf("P9.1: New of %v: %v, fault %v", l, h != nil, f)
	}
}

// beside holds Check of one range, and of it as the first, the middle and the last of three.
func beside(t *testing.T, want bool, g api.Range) {
	t.Helper()
	checks(t, want, g)
	low, high := api.Range{Lo: 0, Hi: 9, To: 3}, api.Range{Lo: 0x10ff00, Hi: 0x10ff09, To: 3}
	checks(t, want, low, g)
	checks(t, want, g, high)
	checks(t, want, low, g, high)
}

// P9.1: how many ranges.
func TestCheckMany(t *testing.T) {
	checks(t, true)
	if !hyph.Check(nil) || !hyph.Check([]api.Range{}) {
		t.Error("P9.1: no range")
	}
	for _, n := range []int{1, 2, 255, 256} {
		checks(t, true, many(n)...)
	}
	for _, n := range []int{257, 258, 500} {
		checks(t, false, many(n)...)
	}
}

// P9.1: Lo at least 0, Hi at least Lo and at most 10FFFF.
func TestCheckLoHi(t *testing.T) {
	beside(t, true, api.Range{Lo: 10, Hi: 10, To: 10})
	beside(t, true, api.Range{Lo: 10, Hi: 11, To: 10})
	beside(t, false, api.Range{Lo: 10, Hi: 9, To: 10})
	beside(t, false, api.Range{Lo: 500, Hi: 100, To: 10})
	beside(t, false, api.Range{Lo: 500, Hi: -1, To: 10})
	beside(t, false, api.Range{Lo: 500, Hi: math.MinInt32, To: 10})
	for _, lo := range []int32{-1, -2, -500, math.MinInt32} {
		beside(t, false, api.Range{Lo: lo, Hi: 500, To: 1})
		beside(t, false, api.Range{Lo: lo, Hi: lo, To: 1})
		beside(t, false, api.Range{Lo: lo, Hi: 0, To: 0})
	}
	beside(t, false, api.Range{Lo: math.MinInt32, Hi: math.MaxInt32, To: 0})
	checks(t, true, api.Range{Lo: 0, Hi: 0, To: 0})
	checks(t, true, api.Range{Lo: 0, Hi: 0x10ffff, To: 0})
	checks(t, true, api.Range{Lo: 0x10ffff, Hi: 0x10ffff, To: 0})
	for _, hi := range []int32{0x110000, 0x110001, 0x200000, math.MaxInt32} {
		beside(t, false, api.Range{Lo: 100, Hi: hi, To: 0})
		beside(t, false, api.Range{Lo: hi, Hi: hi, To: 0})
	}
}

// P9.1: each Lo above the Hi ahead of it.
func TestCheckRising(t *testing.T) {
	for _, x := range []struct {
		lo   int32
		want bool
	}{{0, false}, {9, false}, {10, false}, {15, false}, {19, false}, {20, false}, {21, true}, {22, true}, {30, true}} {
		ahead, last := api.Range{Lo: 10, Hi: 20, To: 5}, api.Range{Lo: x.lo, Hi: 30, To: 5}
		checks(t, x.want, ahead, last)
		checks(t, x.want, api.Range{Lo: 0, Hi: 0}, ahead, last, api.Range{Lo: 31, Hi: 31})
	}
	checks(t, false, api.Range{Lo: 10, Hi: 20}, api.Range{Lo: 5, Hi: 7})
	checks(t, false, api.Range{Lo: 5, Hi: 5}, api.Range{Lo: 5, Hi: 5})
	checks(t, false, api.Range{Lo: 5, Hi: 5}, api.Range{Lo: 7, Hi: 7}, api.Range{Lo: 6, Hi: 6})
	checks(t, true, api.Range{Lo: 0, Hi: 0x10fffe}, api.Range{Lo: 0x10ffff, Hi: 0x10ffff})
	checks(t, false, api.Range{Lo: 0, Hi: 0x10ffff}, api.Range{Lo: 0x10ffff, Hi: 0x10ffff})
	turned := many(9)
	slices.Reverse(turned)
	checks(t, false, turned...)
}

// P9.1: To at least 0, and To + Hi - Lo at most 10FFFF, also with numbers that are too great for a sum.
func TestCheckTo(t *testing.T) {
	for _, long := range []int32{0, 1, 9, 1000, 0x10fe00} {
		g := api.Range{Lo: 10, Hi: 10 + long}
		room := 0x10ffff - int(long)
		for _, to := range []int{0, 1, 255, 256, room - 1, room} {
			g.To = min(to, room)
			beside(t, true, g)
		}
		for _, to := range []int{room + 1, 0x110000, 1 << 31, 1<<32 - 1, 1 << 32, 1<<32 + 5, 1 << 62, math.MaxInt - int(long), math.MaxInt - int(long) + 1, math.MaxInt - 1, math.MaxInt} {
			g.To = to
			beside(t, false, g)
		}
		for _, to := range []int{-1, -2, -int(long) - 1, -0x10ffff, -1 << 32, -1<<32 + 5, math.MinInt, math.MinInt + 1} {
			g.To = to
			beside(t, false, g)
		}
	}
	checks(t, false, api.Range{Lo: 0, Hi: 0x10ffff, To: 1})
	checks(t, true, api.Range{Lo: 1, Hi: 0x10ffff, To: 1})
	checks(t, false, api.Range{Lo: 1, Hi: 0x10ffff, To: 2})
	checks(t, true, api.Range{Lo: 0, Hi: 0, To: 0x10ffff})
	// Ranges may lead to the same letters, and to lower ones than the one ahead.
	checks(t, true, api.Range{Lo: 10, Hi: 20, To: 100}, api.Range{Lo: 30, Hi: 40, To: 100}, api.Range{Lo: 50, Hi: 60, To: 0})
}

// fault holds that New answers a fault, and nothing beside it.
func fault(t *testing.T, text string, letters []api.Range, left, right int, want api.Fault) {
	t.Helper()
	if h, f := hyph.New(text, letters, left, right); f != want || h != nil {
		t.Errorf("P9.1: %d bytes %.20q, %d letters, %d, %d: fault %v, want %v, nil: %v", len(text), text, len(letters), left, right, f, want, h == nil)
	}
}

// P9.1: left and right are from 1 to 24.
func TestNewLeftRight(t *testing.T) {
	right, wrong := []int{1, 2, 12, 23, 24}, []int{0, -1, -24, 25, 26, 1 << 32, 1<<32 + 1, -1<<32 + 1, math.MinInt, math.MaxInt}
	config := api.Fault{Code: api.ErrConfig}
	for _, a := range right {
		for _, b := range right {
			made(t, "hy1p", small(), a, b)
		}
		for _, b := range wrong {
			fault(t, "hy1p", small(), a, b, config)
			fault(t, "hy1p", small(), b, a, config)
		}
	}
	for _, a := range wrong {
		for _, b := range wrong {
			fault(t, "hy1p", small(), a, b, config)
		}
	}
}

// P9.1: each of pats.Parse's faults, where it is.
func TestNewOfPatterns(t *testing.T) {
	full := strings.Repeat("a", 24) + strings.Repeat(" ", api.MaxSource-24)
	made(t, full, small(), 1, 1)
	fault(t, full+" ", small(), 1, 1, api.Fault{Code: api.ErrMany, At: 4096})
	fault(t, strings.Repeat("-", 5000), small(), 1, 1, api.Fault{Code: api.ErrMany, At: 4096})
	made(t, strings.Repeat("a ", 256), small(), 1, 1)
	fault(t, strings.Repeat("a ", 256)+" b", small(), 1, 1, api.Fault{Code: api.ErrMany, At: 513})
	for _, word := range []string{"a12b", "a.b", ".", "-a", "a--b", "a1-b", "12", "\xff", strings.Repeat("a", 25), "a-" + strings.Repeat("b", 24)} {
		fault(t, word, small(), 1, 1, api.Fault{Code: api.ErrPattern})
		fault(t, "hy1p ta-ble "+word+" x", small(), 24, 24, api.Fault{Code: api.ErrPattern, At: 12})
	}
	fault(t, "ta-ble x tab-le", small(), 1, 1, api.Fault{Code: api.ErrTwice, At: 9})
	fault(t, "ta-ble x ta-ble 12", nil, 1, 1, api.Fault{Code: api.ErrTwice, At: 9})
}

// P9.1, R2: where several faults stand, the first one by the chapter's order is told.
func TestNewFirstFault(t *testing.T) {
	wrong := []api.Range{{Lo: 5, Hi: 4}}
	texts := []string{"", "hy1p", "x 12", "a-b ab- x", "a-b a-b", strings.Repeat("a ", 257), strings.Repeat(" ", 4097)}
	for _, text := range texts {
		for _, sides := range [][2]int{{1, 1}, {0, 1}, {1, 25}, {-1, 99}} {
			fault(t, text, wrong, sides[0], sides[1], api.Fault{Code: api.ErrTable})
			fault(t, text, many(257), sides[0], sides[1], api.Fault{Code: api.ErrTable})
			if sides != [2]int{1, 1} {
				fault(t, text, small(), sides[0], sides[1], api.Fault{Code: api.ErrConfig})
				fault(t, text, nil, sides[0], sides[1], api.Fault{Code: api.ErrConfig})
			}
		}
	}
}
