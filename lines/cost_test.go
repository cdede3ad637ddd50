package lines_test

import (
	"testing"

	"stanza/api"
	"stanza/lines"
)

// P16.2: no lines cost nothing, and may be, whatever the text and the way are.
func TestCostOfNoLines(t *testing.T) {
	for _, told := range []string{"", "a", "WW|a!b-c"} {
		for _, c := range []api.Config{way(1), loose(1, below), longest(hyphens(1, 7, 9))} {
			holdSum(t, text(told), nil, c, 0)
			holdSum(t, text(told), []api.Line{}, c, 0)
		}
	}
}

// P16.2: lines of one part: the last one isn't bad, the others are as loose as they are.
func TestCostOfOnePart(t *testing.T) {
	costs(t, "a", way(1), 100, 1)
	costs(t, "a", way(api.MaxWidth), 100, 1)
	costs(t, "a b c", loose(9, below), 100, 5)
	costs(t, "a b|c d", way(3), 200, 3, 6)
	costs(t, "a b|c d", way(4), 110*110+100, 3, 6)
	costs(t, "a b|c d", way(5), 810*810+100, 3, 6)
	costs(t, "a b|c d", way(8), dear+100, 3, 6)
	costs(t, "a b|c d|e f", way(4), 2*110*110+100, 3, 6, 9)
	costs(t, words, way(9), 810*810+2710*2710+100, 8, 15, 24)
	costs(t, words, way(9), 100+dear+100, 10, 15, 24)
}

// P16.2: lines of several parts: each that ends at a boundary of Must is a last one, within the text too.
func TestCostOfSeveralParts(t *testing.T) {
	for _, most := range []float64{noNumber, 0, below} {
		costs(t, "a!b", loose(9, most), 200, 1, 2)
		costs(t, "a b!c d!e", loose(9, most), 300, 3, 6, 7)
		costs(t, "a!W!t! !0", loose(9, most), 500, 1, 2, 3, 4, 5)
	}
	costs(t, "a b|c!d e|f!g", way(4), 110*110+100+110*110+100+100, 3, 4, 7, 8, 9)
	costs(t, "a b|c!d e|f!g", loose(4, 0.9), never, 3, 4, 7, 8, 9)
	// Some of the lines of a text.
	costs(t, "a b|c!d e|f!g", way(4), 110*110, 3)
	costs(t, "a b|c!d e|f!g", way(4), 110*110+100, 3, 4)
}

// P16.2: a line that may not be, the first one, one within, the last one: 0, false, whatever the others cost (R3).
func TestCostOfWhatMayNotBe(t *testing.T) {
	// Too wide.
	costs(t, "abc|de|fg", way(2), never, 3, 5, 7)
	costs(t, "ab|cde|fg", way(2), never, 2, 5, 7)
	costs(t, "ab|cd|efg", way(2), never, 2, 4, 7)
	costs(t, "ab|cd|efg", way(3), 2*dear+100, 2, 4, 7)
	costs(t, "ab-cd", way(2), never, 2, 4)
	costs(t, "abc!de!fg", way(2), never, 3, 5, 7)
	costs(t, "ab!cde!fg", way(2), never, 2, 5, 7)
	costs(t, "ab!cd!efg", way(2), never, 2, 4, 7)
	// Nothing may be done there.
	costs(t, "abc|d|e", way(9), never, 1, 3, 5)
	costs(t, "a|bcd|e", way(9), never, 1, 2, 4, 5)
	costs(t, "a|b|cd", way(9), never, 1, 2, 3)
	// Too loose.
	costs(t, "ab|c d|e f|g", loose(4, 1), never, 2, 5, 8, 9)
	costs(t, "a b|cd|e f|g", loose(4, 1), never, 3, 5, 8, 9)
	costs(t, "a b|c d|ef|g", loose(4, 1), never, 3, 6, 8, 9)
	costs(t, "a b|c d|e f|g", loose(4, 1), 3*110*110+100, 3, 6, 9, 10)
	// All of them.
	costs(t, "ab|cd|ef", way(1), never, 2, 4, 6)
}

// P16.2: Hyphen costs more for each line that ends by one, Pair for one behind another, across the two lines' boundary.
func TestCostHyphens(t *testing.T) {
	c := hyphens(6, 7, 1000)
	costs(t, "ab cd-e fgh-ijk", c, 107+1107+100, 5, 10, 13)
	costs(t, "ab cde|e fg|h-ijk", c, 100+810*810+100, 6, 10, 14)
	costs(t, "ab cd-e fgh|ijk", c, 107+110*110+100, 5, 10, 13)
	costs(t, "ab-cd-ef", hyphens(3, 7, 1000), 107+1107+100, 2, 4, 6)
	costs(t, "ab-cd-ef", hyphens(3, 0, 0), 300, 2, 4, 6)
	costs(t, "ab-cd-ef", hyphens(3, 0, 1), 301, 2, 4, 6)
	costs(t, "ab-cd-ef", hyphens(3, api.MaxCost, api.MaxCost), 300+3*api.MaxCost, 2, 4, 6)
	costs(t, "ab-cd-ef-gh", hyphens(3, 7, 1000), 107+2*1107+100, 2, 4, 6, 8)
	// A last line that ends behind one, and a part's beginning behind none.
	costs(t, "ab-cd!ef-gh", hyphens(3, 7, 1000), 2*107+200, 2, 4, 6, 8)
	costs(t, "ab-cd|ef-gh", hyphens(3, 7, 1000), 107+dear+107+100, 2, 4, 6, 8)
}

// P16.2: what the text has at a line's end counts, for a last line as for a hyphen; of the lines only where they are.
func TestCostTakesTheText(t *testing.T) {
	p := text("a b!c d|e f-g")
	c := hyphens(5, 7, 0)
	holdSum(t, p, at(p, 8, 3, 6, 9, 10), c, 100+810*810+110*110+7+100)
	for _, end := range []api.Opp{api.Keep, api.May, api.Must, api.Hyphen, api.Cut} {
		l := at(p, 8, 3, 6, 9, 10)
		for i := range l {
			l[i].Cells, l[i].End = 77, end
		}
		holdSum(t, p, l, c, 100+810*810+110*110+7+100)
	}
}

// P16.2: the lines of both modes: those of Best cost least, those of First may cost more; those that are cut, or too loose, may not be.
func TestCostOfBothModes(t *testing.T) {
	for _, told := range []struct {
		text        string
		c           api.Config
		best, first int
	}{
		{words, way(9), 810*810 + 2710*2710 + 100, 100 + dear + 100},
		{words, loose(9, 3), 810*810 + 2710*2710 + 100, never},
		{words, loose(9, 2), never, never},
		{words + "!" + words, way(9), 2 * (810*810 + 2710*2710 + 100), 2 * (100 + dear + 100)},
		{words + "!abcdefghij!a", way(9), never, never},
		{"a b|c-de", hyphens(5, 0, 0), 200, 200},
		{"a b|c-de", hyphens(5, api.MaxCost, 0), 810*810 + 100, api.MaxCost + 200},
		{"ab cd-e fg|h-ijk", hyphens(6, 0, api.MaxCost), 100 + 810*810 + 100, 300 + api.MaxCost},
		{"W", way(1), never, never},
		{"", way(1), 0, 0},
	} {
		p := text(told.text)
		right(t, p, told.c)
		best, _ := lines.Break(p, told.c)
		first, _ := lines.Break(p, longest(told.c))
		for _, c := range []api.Config{told.c, longest(told.c)} {
			holdSum(t, p, best, c, told.best)
			holdSum(t, p, first, c, told.first)
		}
	}
}
