package draw_test

import (
	"strings"
	"testing"

	"stanza/api"
	"stanza/draw"
	"stanza/span"
)

// The chapter's example, however the line ends: the Space at its end is no gap, so nothing is spread.
func TestExample(t *testing.T) {
	for _, end := range []api.Opp{api.May, api.Must, api.Cut} {
		drawn(t, "atb ", 0, 4, end, way(9), "a   b", "a   b")
	}
	drawn(t, "atb ", 0, 4, api.Hyphen, way(9), "a   b-", "a   b-")
	draws(t, "atb ", way(9), "a   b", "a   b")
}

// P22.1, R5: no text: it has no lines, and the line of nothing has no bytes, but for the hyphen.
func TestNoText(t *testing.T) {
	draws(t, "", way(1))
	for _, end := range []api.Opp{api.May, api.Must, api.Cut} {
		drawn(t, "", 0, 0, end, way(5), "", "")
	}
	drawn(t, "", 0, 0, api.Hyphen, way(5), "-", "-")
}

// P22.1: a line of one cluster, of each sort, however it ends.
func TestOneCluster(t *testing.T) {
	for letter, want := range map[string]string{"a": "a", "W": "W", "E": "E", "?": "?", "t": "    ", "u": "    ", "v": "    ", "0": "", "N": "", " ": "", "_": "", "=": ""} {
		draws(t, letter, way(4), want, want)
		for _, end := range []api.Opp{api.May, api.Must, api.Cut} {
			drawn(t, letter, 0, 1, end, way(9), want, want)
		}
		drawn(t, letter, 0, 1, api.Hyphen, way(9), want+"-", want+"-")
	}
}

// P22.1: lines that end where they may are filled, with the hyphen's cell counted; those that end by Must and by Cut are not; without full none is.
func TestEnds(t *testing.T) {
	draws(t, "a b |ccccc", way(6), "a b", "a    b", "ccccc", "ccccc")
	draws(t, "a b-cccc", way(6), "a b-", "a   b-", "cccc", "cccc")
	draws(t, "a b!cc", way(5), "a b", "a b", "cc", "cc")
	draws(t, "a b", way(9), "a b", "a b")
	draws(t, "a bWW", way(4), "a b", "a b", "WW", "WW")
	draws(t, "ab-cd", way(3), "ab-", "ab-", "cd", "cd")
	draws(t, "a b |c d-eee|f g!h i", way(5), "a b", "a   b", "c d-", "c  d-", "eee", "eee", "f g", "f g", "h i", "h i")
}

// P22.1: how a line ends is what the line says, whatever may be done in the text at that place.
func TestEndIsTheLines(t *testing.T) {
	for _, told := range []string{"a bW", "a b|W", "a b-W", "a b!W"} {
		drawn(t, told, 0, 3, api.May, way(7), "a b", "a     b")
		drawn(t, told, 0, 3, api.Hyphen, way(7), "a b-", "a    b-")
		drawn(t, told, 0, 3, api.Must, way(7), "a b", "a b")
		drawn(t, told, 0, 3, api.Cut, way(7), "a b", "a b")
	}
	for _, told := range []string{"a b", "a b "} {
		drawn(t, told, 0, len(told), api.May, way(7), "a b", "a     b")
		drawn(t, told, 0, len(told), api.Hyphen, way(7), "a b-", "a    b-")
	}
}

// P22.1: what is empty at a line's end isn't drawn: spaces, and Plain clusters without cells, in any order; the hyphen stands behind what is seen.
func TestEmptyAtEnd(t *testing.T) {
	draws(t, "a b   |cccccc", way(6), "a b", "a    b", "cccccc", "cccccc")
	draws(t, "a bN|cccccc", way(6), "a b", "a    b", "cccccc", "cccccc")
	draws(t, "a b0 N_= 0|cccccc", way(6), "a b", "a    b", "cccccc", "cccccc")
	draws(t, "a b  !c", way(9), "a b", "a b", "c", "c")
	draws(t, "a bN!c0", way(9), "a b", "a b", "c", "c")
	draws(t, "a b0 -cccc", way(6), "a b-", "a   b-", "cccc", "cccc")
	drawn(t, "a b0 =W", 0, 6, api.Cut, way(9), "a b", "a b")
	drawn(t, "a b0 =W", 0, 6, api.Hyphen, way(9), "a b-", "a      b-")
}

// P22.1: what is empty within a line is drawn: spaces are gaps, and what has no cells has its bytes.
func TestEmptyWithin(t *testing.T) {
	draws(t, "a0b", way(9), "a0b", "a0b")
	draws(t, "aNb0Nc |dddddd", way(6), "aNb0Nc", "aNb0Nc", "dddddd", "dddddd")
	draws(t, "a  b|cccccc", way(9), "a  b", "a       b", "cccccc", "cccccc")
	draws(t, "a 0 b|cccccc", way(7), "a 0 b", "a  0   b", "cccccc", "cccccc")
	draws(t, "W0 N0 W|aaaaaaaa", way(9), "W0 N0 W", "W0  N0   W", "aaaaaaaa", "aaaaaaaa")
}

// P22.1: what is empty at a line's beginning is drawn, too.
func TestEmptyAtBeginning(t *testing.T) {
	draws(t, " a |bbbb", way(4), " a", "   a", "bbbb", "bbbb")
	draws(t, "  a b |cccccc", way(8), "  a b", "    a  b", "cccccc", "cccccc")
	draws(t, "0a |bbb", way(3), "0a", "0a", "bbb", "bbb")
	draws(t, "N 0a b|cccccc", way(7), "N 0a b", "N  0a   b", "cccccc", "cccccc")
	draws(t, "  a!  b", way(5), "  a", "  a", "  b", "  b")
}

// P22.1: of a line of empty clusters alone nothing is drawn but the hyphen, if it ends by one.
func TestEmptyAlone(t *testing.T) {
	draws(t, "   |abc", way(3), "", "", "abc", "abc")
	draws(t, "   ", way(3), "", "")
	draws(t, "00 N|aaa", way(2), "", "", "aa", "aa", "a", "a")
	draws(t, "  -abc", way(3), "-", "-", "abc", "abc")
	draws(t, "00-abc", way(2), "-", "-", "ab", "ab", "c", "c")
	draws(t, "N!0 0!_=!a", way(2), "", "", "", "", "", "", "a", "a")
	for _, told := range []string{" ", "0", "N", "_", "=", " 0 0", "0 N _ =", "    "} {
		for _, end := range []api.Opp{api.May, api.Must, api.Cut} {
			drawn(t, told, 0, len(told), end, way(50), "", "")
		}
		drawn(t, told, 0, len(told), api.Hyphen, way(50), "-", "-")
	}
}

// P22.1: spaces of no cell and of two are gaps as others are; as they are, they are as wide as their cells.
func TestSpacesOfAllCells(t *testing.T) {
	draws(t, "a_b|ccccc", way(5), "ab", "a   b", "ccccc", "ccccc")
	draws(t, "a=b|ccccc", way(5), "a  b", "a   b", "ccccc", "ccccc")
	draws(t, "a_b=c d|eeeeeeeeee", way(12), "ab  c d", "a b    c   d", "eeeeeeeeee", "eeeeeeeeee")
	draws(t, "_a=_|bbb", way(3), "a", "  a", "bbb", "bbb")
	draws(t, "a_b=c", way(9), "ab  c", "ab  c")
}

// P22.1: without a space there is no gap: the row stays narrower; with many the room goes to all of them.
func TestSpacesFewAndMany(t *testing.T) {
	draws(t, "a|bbbb", way(4), "a", "a", "bbbb", "bbbb")
	draws(t, "aE?|bbbbbb", way(6), "aE?", "aE?", "bbbbbb", "bbbbbb")
	draws(t, "ab-cccc", way(5), "ab-", "ab-", "cccc", "cccc")
	drawn(t, strings.Repeat("a ", 50)+"bW", 0, 101, api.May, way(201), strings.Repeat("a ", 50)+"b", strings.Repeat("a   ", 50)+"b")
	drawn(t, strings.Repeat("a ", 50)+"bW", 0, 101, api.Hyphen, way(152), strings.Repeat("a ", 50)+"b-", strings.Repeat("a  ", 50)+"b-")
}

// P22.1: room that is no multiple of the gaps: what is left goes as just.Spread says.
func TestRoomOverGaps(t *testing.T) {
	for width, want := range map[int]string{
		7: "a b c d", 8: "a b c  d", 9: "a b  c  d", 10: "a  b  c  d", 11: "a  b  c   d", 12: "a  b   c   d", 13: "a   b   c   d", 5: "a b c d",
	} {
		drawn(t, "a b c dW", 0, 7, api.May, way(width), "a b c d", want)
		drawn(t, "a b c dW", 0, 7, api.Hyphen, way(width+1), "a b c d-", want+"-")
	}
	drawn(t, "a b c d eW", 0, 9, api.May, way(11), "a b c d e", "a b  c d  e")
	drawn(t, "a b c d eW", 0, 9, api.May, way(10), "a b c d e", "a b c d  e")
	drawn(t, "a b c d eW", 0, 9, api.May, way(12), "a b c d e", "a b  c  d  e")
}

// P22.1: a row as wide as the width, and wider ones: nothing is spread.
func TestWithoutRoom(t *testing.T) {
	draws(t, "a b |cc", way(3), "a b", "a b", "cc", "cc")
	draws(t, "a b-cc", way(4), "a b-", "a b-", "cc", "cc")
	draws(t, "W|a", way(1), "W", "W", "a", "a")
	draws(t, "W-a", way(2), "W", "W", "a", "a")
	draws(t, "W  |a", way(1), "W", "W", "", "", "a", "a")
	draws(t, "t|a", way(1), "    ", "    ", "a", "a")
	draws(t, "tt", way(3), "    ", "    ", "    ", "    ")
	for width := 1; width <= 5; width++ {
		drawn(t, "a b cW", 0, 5, api.May, way(width), "a b c", "a b c")
		drawn(t, "a b cW", 0, 5, api.Hyphen, way(width+1), "a b c-", "a b c-")
		drawn(t, " atbW", 0, 4, api.May, way(width), " a  b", " a  b")
	}
}

// P22.1: of width 1: rows of one cluster, of one and what is empty behind it, of what is empty alone.
func TestLeastWidth(t *testing.T) {
	draws(t, "a bW0", way(1), "a", "a", "b", "b", "W", "W", "", "")
	draws(t, "a |b |c", way(1), "a", "a", "b", "b", "c", "c")
}

// P22.1: of the greatest width there is: all of it in one gap, or in two.
func TestGreatestWidth(t *testing.T) {
	blanks := strings.Repeat(" ", api.MaxWidth/2)
	drawn(t, "a bW", 0, 3, api.May, way(api.MaxWidth), "a b", "a"+blanks+blanks[2:]+"b")
	drawn(t, "a bW", 0, 3, api.Hyphen, way(api.MaxWidth), "a b-", "a"+blanks+blanks[3:]+"b-")
	drawn(t, " aW", 0, 2, api.May, way(api.MaxWidth), " a", blanks+blanks[1:]+"a")
	drawn(t, "a b cW", 0, 5, api.May, way(api.MaxWidth), "a b c", "a"+blanks[2:]+"b"+blanks[1:]+"c")
	drawn(t, "a bW", 0, 3, api.Cut, way(api.MaxWidth), "a b", "a b")
	drawn(t, "a b", 0, 3, api.Must, way(api.MaxWidth), "a b", "a b")
}

// P22.1: lines that aren't the text's first: their bytes are where their clusters are, and their columns begin anew.
func TestLaterLines(t *testing.T) {
	draws(t, "ab |c d |eee", way(4), "ab", "ab", "c d", "c  d", "eee", "eee")
	draws(t, "abc|dte|f", way(5), "abc", "abc", "d   e", "d   e", "f", "f")
	draws(t, "WE?|a W|WWW", way(6), "WE?", "WE?", "a W", "a   W", "WWW", "WWW")
	draws(t, "EE!te W|0??!aN", way(9), "EE", "EE", "    e W", "    e  W", "0??", "0??", "a", "a")
	drawn(t, "a b c dW", 2, 5, api.May, way(6), "b c", "b    c")
	drawn(t, "a b c dW", 1, 4, api.Hyphen, way(6), " b-", "    b-")
	drawn(t, "abctdtW", 3, 6, api.Cut, way(9), "    d   ", "    d   ")
	drawn(t, "abctdtW", 2, 6, api.May, way(9), "c   d   ", "c   d   ")
}

// P22.1: rows of lines that cost least.
func TestBest(t *testing.T) {
	draws(t, "aaa |bbb |c |dddd |eeeeeeeee", best(way(9)), "aaa bbb", "aaa   bbb", "c dddd", "c    dddd", "eeeeeeeee", "eeeeeeeee")
	draws(t, "aaa |bbb |c |dddd |eeeeeeeee", way(9), "aaa bbb c", "aaa bbb c", "dddd", "dddd", "eeeeeeeee", "eeeeeeeee")
	draws(t, "a b-cccc", best(way(6)), "a b-", "a   b-", "cccc", "cccc")
	draws(t, "a bWW", best(way(4)), "a b", "a b", "WW", "WW")
}

// P22.1: a line by another way than that which made it: tabs and room are those of the way that is handed in, as just.Line has them.
func TestByOtherWays(t *testing.T) {
	text, p := read("atb c|W")
	l := span.Make(p, 0, 5, api.May, 4)
	for _, told := range []struct {
		width, tab   int
		want, filled string
	}{
		{7, 4, "a   b c", "a   b c"}, {9, 4, "a   b c", "a   b   c"}, {6, 4, "a   b c", "a   b c"},
		{7, 2, "a b c", "a b   c"}, {8, 1, "a b c", "a b    c"}, {12, 8, "a       b c", "a       b  c"},
	} {
		c := tabbed(way(told.width), told.tab)
		if got := string(draw.Row(text, p, l, c, false)); got != told.want {
			t.Errorf("P22.1: by %v: %q, want %q", c, got, told.want)
		}
		if got := string(draw.Row(text, p, l, c, true)); got != told.filled {
			t.Errorf("P22.1: filled by %v: %q, want %q", c, got, told.filled)
		}
	}
}
