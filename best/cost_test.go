package best_test

import (
	"math"
	"slices"
	"strings"
	"testing"

	"stanza/api"
	"stanza/best"
)

var (
	infinite = math.Inf(1)
	below    = math.Inf(-1)
	minus0   = math.Copysign(0, -1)
)

// P15.1, R3: no line, if its end isn't behind its beginning, whatever may be done there.
func TestCostNotBehind(t *testing.T) {
	for _, told := range []string{"", "a", "a|b-c!dW e|t0-", "a- |!"} {
		p := text(told)
		for from := range p.Opps {
			for to := 0; to <= from; to++ {
				for _, last := range []bool{false, true} {
					costs(t, told, from, to, last, way(api.MaxWidth), never)
				}
			}
		}
	}
	costs(t, "a|b", 1, 2, true, way(9), 100)
}

// P15.1: what may be done at the end: none, if that is nothing.
func TestCostEnds(t *testing.T) {
	c := hyphens(4, 7, 5)
	costs(t, "a bc d", 0, 3, false, c, never)
	costs(t, "a bc d", 0, 3, true, c, never)
	costs(t, "a b|c d", 0, 3, false, c, 110*110)
	costs(t, "a b|c d", 0, 3, true, c, 100)
	costs(t, "a b!c d", 0, 3, false, c, 110*110)
	costs(t, "a b!c d", 0, 3, true, c, 100)
	costs(t, "a b-c d", 0, 3, false, c, 107)
	costs(t, "a b-c d", 0, 3, true, c, 107)
	costs(t, "a b", 0, 3, true, c, 100)
	costs(t, "a b", 0, 3, false, c, 110*110)
	costs(t, "a b", 0, 2, true, c, never)
	// What may be done within the line says nothing.
	costs(t, "a|!b-|c|!d", 0, 4, true, c, 100)
	costs(t, "a!b-c!d", 0, 3, false, c, dear)
	costs(t, "a! !c!d", 0, 3, false, c, 110*110)
}

// P15.1: a line that is just as wide as the width may be, one that is a cell wider may not, the last one neither.
func TestCostWidth(t *testing.T) {
	for _, last := range []bool{false, true} {
		for _, end := range []string{"|", "!"} {
			costs(t, "abc"+end+"d", 0, 3, last, way(3), 100)
			costs(t, "abc"+end+"d", 0, 3, last, way(2), never)
			costs(t, "a c"+end+"d", 0, 3, last, way(3), 100)
			costs(t, "a c"+end+"d", 0, 3, last, way(2), never)
			costs(t, "aW"+end+"d", 0, 2, last, way(3), 100)
			costs(t, "aW"+end+"d", 0, 2, last, way(2), never)
			costs(t, "W"+end+"d", 0, 1, last, way(1), never)
			costs(t, "abc  0"+end+"d", 0, 6, last, way(3), 100)
			costs(t, "abc  0"+end+"d", 0, 6, last, way(2), never)
		}
		costs(t, "abc-d", 0, 3, last, way(4), 100)
		costs(t, "abc-d", 0, 3, last, way(3), never)
		costs(t, "abc-d", 0, 3, last, way(2), never)
		costs(t, "abc  0-d", 0, 6, last, way(4), 100)
		costs(t, "abc  0-d", 0, 6, last, way(3), never)
		costs(t, "0-d", 0, 1, last, way(1), 100)
	}
}

// P15.1: a Tab leads to a column of its line, and counts at its end; of the way Tab says how far.
func TestCostTabs(t *testing.T) {
	c := loose(8, 3)
	costs(t, "at|b", 0, 2, false, c, 100)
	costs(t, "atb|b", 0, 3, false, c, never)
	costs(t, "abt|b", 1, 3, false, c, 100)
	c.Width = 9
	costs(t, "at|b", 0, 2, false, c, never)
	costs(t, "atb|b", 0, 3, false, c, 100)
	costs(t, "a t|b", 0, 3, false, c, 110*110)
	costs(t, "a t |b", 0, 4, false, c, 110*110)
	c.Tab = 9
	costs(t, "a t|b", 0, 3, false, c, 100)
	c.Tab = 10
	costs(t, "a t|b", 0, 3, true, c, never)
	c.Tab = 1
	costs(t, "a t|b", 0, 3, true, c, 100)
	costs(t, "a t|b", 0, 3, false, c, never)
}

// P15.1: the last line isn't bad, however loose it is, and may be as loose as it likes.
func TestCostLast(t *testing.T) {
	for _, most := range []float64{0, minus0, -1, 0.5, infinite, below, noNumber} {
		for _, width := range []int{3, 4, 5, 100, api.MaxWidth} {
			costs(t, "a b", 0, 3, true, loose(width, most), 100)
			costs(t, "abc", 0, 3, true, loose(width, most), 100)
			costs(t, "a b|c", 0, 3, true, loose(width, most), 100)
			costs(t, " ", 0, 1, true, loose(width, most), 100)
		}
		costs(t, "a b", 0, 3, true, loose(2, most), never)
	}
}

// loosely holds Cost of a line at several Looses: it may be by some of them, by others not.
func loosely(t *testing.T, told string, to, width, cost int, fits, not []float64) {
	t.Helper()
	for _, most := range fits {
		costs(t, told, 0, to, false, loose(width, most), cost)
	}
	for _, most := range not {
		costs(t, told, 0, to, false, loose(width, most), never)
	}
}

// P15.1: a line may be as loose as Loose, but no looser; by what is no number it may be as loose as it likes.
func TestCostLoose(t *testing.T) {
	tiny := math.SmallestNonzeroFloat64
	below0 := []float64{-tiny, -0.5, -1, -math.MaxFloat64, below}
	zeros := []float64{0, minus0}
	// r is 0.5: room of a cell for two gaps.
	loosely(t, "a b c|d", 5, 6, 22*22,
		[]float64{0.5, math.Nextafter(0.5, 1), 0.51, 1, 1e9, math.MaxFloat64, infinite, noNumber},
		slices.Concat([]float64{math.Nextafter(0.5, 0), 0.49, tiny}, zeros, below0))
	// r is a third.
	third := 1.0 / 3
	loosely(t, "a b c d|e", 7, 8, 13*13,
		[]float64{third, math.Nextafter(third, 1), 1, infinite, noNumber},
		slices.Concat([]float64{math.Nextafter(third, 0), 0.25}, zeros, below0))
	// r is 2.
	loosely(t, "a b|c", 3, 5, 810*810,
		[]float64{2, math.Nextafter(2, 3), infinite, noNumber},
		slices.Concat([]float64{math.Nextafter(2, 1), 1}, zeros, below0))
	// r is 0.
	loosely(t, "a b|c", 3, 3, 100,
		slices.Concat([]float64{tiny, 1, infinite, noNumber}, zeros), below0)
}

// P15.1: of no gap: with room infinitely loose, without it no number, which fits into every Loose.
func TestCostNoGap(t *testing.T) {
	not := []float64{math.MaxFloat64, 1e9, 1, 0, minus0, -1, below}
	all := append(slices.Clone(not), infinite, noNumber)
	for _, room := range []int{1, 2, 1000} {
		loosely(t, "abc|d", 3, 3+room, dear, []float64{infinite, noNumber}, not)
		loosely(t, "abc  |d", 5, 3+room, dear, []float64{infinite, noNumber}, not)
		loosely(t, "abc-d", 3, 4+room, dear, []float64{infinite, noNumber}, not)
	}
	loosely(t, "abc|d", 3, 3, 100, all, nil)
	loosely(t, "abc  |d", 5, 3, 100, all, nil)
	loosely(t, "abc-d", 3, 4, 100, all, nil)
	loosely(t, "0-d", 1, 1, 100, all, nil)
	// Of what is empty alone there is no gap, and room of all its width.
	loosely(t, "   |d", 3, 1, dear, []float64{infinite, noNumber}, not)
	loosely(t, "_0|d", 2, 9, dear, []float64{infinite, noNumber}, not)
}

// P15.1: gaps are Spaces of noNumber cells, and none else, up to what isn't empty.
func TestCostGaps(t *testing.T) {
	c := loose(10, 1000)
	costs(t, "a_b|c", 0, 3, false, loose(3, 1000), 110*110)
	costs(t, "a=b|c", 0, 3, false, loose(5, 1000), 110*110)
	costs(t, " a|c", 0, 2, false, loose(3, 1000), 110*110)
	costs(t, "a  b|c", 0, 4, false, loose(5, 1000), 22*22)
	costs(t, "a  b  |c", 0, 6, false, loose(5, 1000), 22*22)
	costs(t, "a  b 0 |c", 0, 7, false, loose(5, 1000), 22*22)
	costs(t, "a b t|c", 0, 5, false, c, 110*110)
	costs(t, "atb|c", 0, 3, false, c, never)
	costs(t, "a0b|c", 0, 3, false, c, never)
	costs(t, "ab |c", 0, 3, false, c, never)
	costs(t, "a b |cd", 2, 4, false, c, never)
}

// P15.1: the square of ten and how bad a line is, that is cut down, and at its greatest from 10000 on.
func TestCostBad(t *testing.T) {
	// Words of a letter: gaps and so many letters more, and as much room as is said.
	for _, told := range []struct{ room, gaps, bad int }{
		{0, 1, 0}, {0, 9, 0}, {1, 1, 100}, {2, 1, 800}, {3, 1, 2700}, {4, 1, 6400}, {5, 1, 10000}, {6, 1, 10000},
		{1, 2, 12}, {3, 2, 337}, {5, 2, 1562}, {9, 2, 9112}, {10, 2, 10000},
		{1, 3, 3}, {2, 3, 29}, {4, 3, 237}, {13, 3, 8137}, {14, 3, 10000},
		{1, 4, 1}, {1, 5, 0}, {23, 5, 9733}, {24, 5, 10000}, {139, 30, 9946}, {140, 30, 10000}, {13, 28, 10},
		{1000, 1, 10000}, {1 << 19, 1, 10000}, {1 << 19, 3, 10000},
	} {
		words := strings.Repeat("a ", told.gaps) + "a|b"
		letters := 2*told.gaps + 1
		costs(t, words, 0, letters, false, way(letters+told.room), (10+told.bad)*(10+told.bad))
	}
}

// P15.1: a line that ends by Hyphen costs Hyphen more, and Pair more, if Hyphen stands where it begins; no other one does.
func TestCostHyphens(t *testing.T) {
	for _, last := range []bool{false, true} {
		for _, hyphen := range []int{0, 1, 77, api.MaxCost} {
			for _, pair := range []int{0, 1, 500, api.MaxCost} {
				c := hyphens(3, hyphen, pair)
				costs(t, "x-ab-cd", 1, 3, last, c, 100+hyphen+pair)
				for _, mark := range []string{"", "|", "!"} {
					costs(t, "x"+mark+"ab-cd", 1, 3, last, c, 100+hyphen)
				}
				costs(t, "ab-cd", 0, 2, last, c, 100+hyphen)
				// Hyphens within the line, or ahead of its beginning, or behind its end, are none of its own.
				costs(t, "x-xa-b-cd", 2, 4, last, c, 100+hyphen)
				for _, end := range []string{"|", "!"} {
					costs(t, "x-a-b"+"c"+end+"d-e", 1, 4, last, c, 100)
				}
				costs(t, "x-ab", 1, 3, true, c, 100)
			}
		}
	}
}

// P15.1: hyphens are added to what a loose line costs; the greatest cost there is.
func TestCostHyphensOfLoose(t *testing.T) {
	costs(t, "x-a b-c", 1, 4, false, hyphens(5, 3, 4), 110*110+7)
	costs(t, "x|a b-c", 1, 4, false, hyphens(5, 3, 4), 110*110+3)
	costs(t, "x-a b-c", 1, 4, false, hyphens(api.MaxWidth, api.MaxCost, api.MaxCost), dear+2*api.MaxCost)
	costs(t, "x-a b-c", 1, 4, true, hyphens(api.MaxWidth, api.MaxCost, api.MaxCost), 100+2*api.MaxCost)
	costs(t, "x-ab-c", 1, 3, false, hyphens(2, 3, 4), never)
}

// P15.1: neither what stands ahead of a line nor what stands behind it counts; nor the mode, nor bytes.
func TestCostOfTheLineAlone(t *testing.T) {
	c := api.Config{Width: 10, Tab: 8, Loose: 1}
	for _, ahead := range []string{"", "a", "t", "W W", "a b|", "a!", "a-b "} {
		for _, behind := range []string{"", "c", " c", "c-c!d"} {
			p := text(ahead + "a tb|" + behind)
			from := len(text(ahead).Clusters)
			for _, size := range []int{1, 3} {
				for i := range p.Clusters {
					p.Clusters[i].At, p.Clusters[i].Len = size*i, size
				}
				for _, c.Mode = range []api.Mode{api.First, api.Best} {
					right(t, p, c)
					if n, ok := best.Cost(p, from, from+4, false, c); n != 110*110 || !ok {
						t.Errorf("P15.1: between %q and %q: %d, %v", ahead, behind, n, ok)
					}
				}
			}
		}
	}
}
