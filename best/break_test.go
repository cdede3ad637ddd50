package best_test

import (
	"slices"
	"testing"

	"stanza/api"
	"stanza/best"
)

const words = "aaa |bbb |c |dddd |eeeeeeeee"

// The chapter's example, and how loose its lines are: 2 and 3.
func TestExample(t *testing.T) {
	want := []string{"aaa bbb |7", "c dddd |6", "eeeeeeeee!9"}
	breaks(t, words, way(9), want...)
	breaks(t, words, loose(9, 1e9), want...)
	breaks(t, words, loose(9, 3), want...)
	breaks(t, words, loose(9, 2.9))
	breaks(t, words, way(8))
	got, ok := best.Break(text(words), 0, 24, way(9))
	if !ok || !slices.Equal(got, []api.Line{{To: 8, Cells: 7, End: api.May}, {From: 8, To: 15, Cells: 6, End: api.May}, {From: 15, To: 24, Cells: 9, End: api.Must}}) {
		t.Errorf("P15.2: %v, %v", got, ok)
	}
}

// P15.2: all of it fits: one line costs least, since the last one isn't bad.
func TestOneLine(t *testing.T) {
	breaks(t, "a", way(1), "a!1")
	breaks(t, "a|b|c", way(3), "abc!3")
	breaks(t, "a-b-c", way(3), "abc!3")
	breaks(t, "a |b-c |d  ", way(6), "a bc d  !6")
	breaks(t, "a |b-c |d  ", way(api.MaxWidth), "a bc d  !6")
	breaks(t, "a |b-c |d  ", loose(6, -1), "a bc d  !6")
	breaks(t, " ", way(1), " !0")
	breaks(t, "=|=|=", way(1), "===!0")
	breaks(t, "t", way(8), "t!8")
}

// P15.2: none may be: what stands between two ends is too wide, first, last or within; no other lines are answered.
func TestNoRows(t *testing.T) {
	breaks(t, "abcd|e", way(3))
	breaks(t, "abcd", way(3))
	breaks(t, "W|a", way(1))
	breaks(t, "a|bcde", way(3))
	breaks(t, "a|W", way(1))
	breaks(t, "ab|cdef|gh", way(3))
	breaks(t, "ab|cdef|gh", way(4), "ab|2", "cdef|4", "gh!2")
	breaks(t, "ab-cd", way(2))
	breaks(t, "ab-cd", way(3), "ab-3", "cd!2")
	breaks(t, "at|b", way(7))
	breaks(t, "at|b", way(8), "at|8", "b!1")
	breaks(t, "a|b-cde", way(2))
	breaks(t, "a|b-cd", way(2), "a|1", "b-2", "cd!2")
	breaks(t, "t", way(7))
}

// P15.2: lines that fit, but are looser than Loose: none, though they would fit; but the last one may be as loose as it likes.
func TestNoneSoLoose(t *testing.T) {
	breaks(t, "ab |cd", loose(4, 1e9))
	breaks(t, "ab |cd", loose(2, 0), "ab |2", "cd!2")
	breaks(t, "ab |c", loose(2, -1), "ab |2", "c!1")
	breaks(t, "ab |c d |e", loose(4, 0))
	breaks(t, "a b |c d |e", loose(3, 0), "a b |3", "c d |3", "e!1")
	breaks(t, "a b |c d |e", loose(3, -1))
	breaks(t, "a b |c d |e", loose(4, 0.9))
	breaks(t, "a b |c d |e", loose(4, 1), "a b |3", "c d |3", "e!1")
	breaks(t, "a b |c d |e", loose(6, 3), "a b |3", "c d e!5")
	// The first line may be, but what is behind it may not.
	breaks(t, "a b |cd |efg", loose(5, 2))
	breaks(t, "a b |cd |ef", loose(5, 2), "a b |3", "cd ef!5")
	breaks(t, "a b |c d |e f", loose(5, 1.9))
	breaks(t, "a b |c d |e f", loose(5, 2), "a b |3", "c d |3", "e f!3")
}

// P15.2: a line that costs less now may cost more later: the sum counts.
func TestCheaperNow(t *testing.T) {
	// The longest first line costs least by itself, but the line behind it would have no gap.
	breaks(t, words, way(9), "aaa bbb |7", "c dddd |6", "eeeeeeeee!9")
	// Here it leaves a line that has one.
	breaks(t, "aaa |bbb |c |dd d dd |eeeeeeeee", way(9), "aaa bbb c |9", "dd d dd |7", "eeeeeeeee!9")
	breaks(t, "a b |c |d |eeee", way(5), "a b |3", "c d |3", "eeee!4")
	breaks(t, "a b |c |d |eee", way(5), "a b c |5", "d eee!5")
	// A hyphen costs less than a loose line, or more.
	breaks(t, "a b|c-de", hyphens(5, 0, 0), "a bc-5", "de!2")
	breaks(t, "a b|c-de", hyphens(5, 810*810-101, api.MaxCost), "a bc-5", "de!2")
	breaks(t, "a b|c-de", hyphens(5, 810*810-100, 0), "a b|3", "cde!3")
	breaks(t, "a b|c-de", hyphens(5, api.MaxCost, 0), "a b|3", "cde!3")
}

// P15.2: a second hyphen in a row costs Pair more, and so may cost more than a loose line.
func TestPairs(t *testing.T) {
	told, other := "ab cd-e fg|h-ijk", "ab cde|e fg|h-ijk"
	two, one := []string{"ab cd-6", "e fgh-6", "ijk!3"}, []string{"ab cd-6", "e fg|4", "hijk!4"}
	breaks(t, told, hyphens(6, 0, 0), two...)
	breaks(t, told, hyphens(6, 0, api.MaxCost), one...)
	breaks(t, told, hyphens(6, 0, 810*810-101), two...)
	breaks(t, told, hyphens(6, 0, 810*810-100), one...)
	breaks(t, told, hyphens(6, 810*810-101, 0), two...)
	breaks(t, told, hyphens(6, 810*810-101, 1), one...)
	breaks(t, other, hyphens(6, 0, api.MaxCost), "ab cde|6", "e fgh-6", "ijk!3")
	breaks(t, other, hyphens(6, api.MaxCost, 0), "ab cde|6", "e fg|4", "hijk!4")
}

// P15.2: of rows that cost the same that whose first line ends first, then whose second one does.
func TestLikeSums(t *testing.T) {
	// What is empty costs nothing at a line's end, and nothing without cells at the next one's beginning.
	breaks(t, "abc|0|def", way(3), "abc|3", "0def!3")
	breaks(t, "abc|0|0|0|def", way(3), "abc|3", "000def!3")
	breaks(t, "abc|_|def", loose(3, 0), "abc|3", "_def!3")
	breaks(t, "abc| |def", loose(3, 0), "abc |3", "def!3")
	breaks(t, "abc| | |d", loose(3, 0), "abc|3", "  d!3")
	breaks(t, "abc| | |de", loose(3, 0), "abc |3", " de!3")
	breaks(t, "abc|0|def|0|ghi", way(3), "abc|3", "0def|3", "0ghi!3")
	// One line without a gap and with room: the first one, or the second one.
	breaks(t, "ab|c|de|fg", way(3), "ab|2", "cde|3", "fg!2")
	breaks(t, "xyz|ab|c|de|fg", way(3), "xyz|3", "ab|2", "cde|3", "fg!2")
	breaks(t, "ab|c|de|f|g", way(3), "abc|3", "def|3", "g!1")
	// Likewise with hyphens: the first line ends with one, or the second one.
	breaks(t, "ab-c|de-0|fg", hyphens(3, 9, 0), "ab-3", "cde0|3", "fg!2")
	breaks(t, "ab-c|de-0|fg", hyphens(3, api.MaxCost, api.MaxCost), "ab-3", "cde0|3", "fg!2")
}

// P15.2: a part that begins within the text: neither what is ahead of it nor what is behind it counts.
func TestPartWithin(t *testing.T) {
	breaksFrom(t, "ab!cd |ef!gh", 2, way(3), "cd |2", "ef!2")
	breaksFrom(t, "ab!cd |ef!gh", 2, way(9), "cd ef!5")
	breaksFrom(t, "ab!cd |ef!gh", 7, way(9), "gh!2")
	breaksFrom(t, "abcd!ef |gh!ijkl", 4, way(3), "ef |2", "gh!2")
	breaksFrom(t, "abc!te|f!t", 3, way(8))
	breaksFrom(t, "abc!te|f!t", 3, way(9), "te|9", "f!1")
	breaksFrom(t, "a!b!c", 1, way(9), "b!1")
	breaksFrom(t, "a! !c", 1, way(9), " !0")
	breaks(t, "ab!cdefg", way(2), "ab!2")
	breaks(t, "a|b-!cd", way(9), "ab!2")
	breaksFrom(t, "xy!"+words, 2, way(9), "aaa bbb |7", "c dddd |6", "eeeeeeeee!9")
	breaksFrom(t, "xy!"+words+"!zzzzzzzzzzzz", 2, way(9), "aaa bbb |7", "c dddd |6", "eeeeeeeee!9")
}

// P15.2: from a boundary that is no part's beginning, whatever may be done there.
func TestFromWithin(t *testing.T) {
	breaksFrom(t, "abc|de", 1, way(2), "bc|2", "de!2")
	breaksFrom(t, "abcde", 4, way(2), "e!1")
	breaksFrom(t, "ab|cd|e", 2, way(2), "cd|2", "e!1")
	breaksFrom(t, "ab-cd-e", 2, way(3), "cde!3")
	breaksFrom(t, "abt|c!d", 2, way(8), "t|8", "c!1")
	breaksFrom(t, "ab!cd!e", 1, way(9), "b!1")
	breaksFrom(t, "abc"+words, 3, way(9), "aaa bbb |7", "c dddd |6", "eeeeeeeee!9")
}

// P15.2: Pair counts for the first line, too, where Hyphen stands at its beginning.
func TestPairAtFrom(t *testing.T) {
	c := hyphens(5, 0, api.MaxCost)
	for _, mark := range []string{"", "|", "!"} {
		breaksFrom(t, "x"+mark+"a b|c-de", 1, c, "a bc-5", "de!2")
	}
	breaksFrom(t, "x-a b|c-de", 1, c, "a b|3", "cde!3")
	c.Pair = 810*810 - 100
	breaksFrom(t, "x-a b|c-de", 1, c, "a b|3", "cde!3")
	c.Pair--
	breaksFrom(t, "x-a b|c-de", 1, c, "a bc-5", "de!2")
}

// P15.2: of nothing between: no lines, true, at any boundary and by any way.
func TestNothingBetween(t *testing.T) {
	for _, c := range []api.Config{way(1), way(api.MaxWidth), loose(1, below), loose(3, 0)} {
		for _, told := range []string{"", "a", "W", "ab!cd |ef-g", sorts} {
			p := text(told)
			for at := range p.Opps {
				if got, ok := best.Break(p, at, at, c); len(got) != 0 || !ok {
					t.Errorf("P15.2: %q from %d to itself: %v, %v", told, at, got, ok)
				}
			}
		}
	}
}

// P15.2: neither the mode nor how many bytes clusters have says anything.
func TestOtherWays(t *testing.T) {
	p, letters := read(words)
	c := way(9)
	for _, c.Mode = range []api.Mode{api.First, api.Best} {
		for size := 1; size < 4; size++ {
			for i := range p.Clusters {
				p.Clusters[i].At, p.Clusters[i].Len = size*i, size
			}
			right(t, p, c)
			lines, ok := best.Break(p, 0, 24, c)
			if got := tell(letters, lines); !ok || !slices.Equal(got, []string{"aaa bbb |7", "c dddd |6", "eeeeeeeee!9"}) {
				t.Errorf("P15.2: by %v: %q, %v", c, got, ok)
			}
		}
	}
}
