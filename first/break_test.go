package first_test

import (
	"slices"
	"strings"
	"testing"

	"stanza/api"
	"stanza/first"
)

// The chapter's examples.
func TestExamples(t *testing.T) {
	breaks(t, "aa |bb", 3, 8, "aa |2", "bb!2")
	breaks(t, "aaaa", 3, 8, "aaa/3", "a!1")
	got := first.Break(text("aa |bb"), 0, 5, api.Config{Width: 3, Tab: 8})
	if !slices.Equal(got, []api.Line{{From: 0, To: 3, Cells: 2, End: api.May}, {From: 3, To: 5, Cells: 2, End: api.Must}}) {
		t.Errorf("P14.1: %v", got)
	}
	got = first.Break(text("aaaa"), 0, 4, api.Config{Width: 3, Tab: 1})
	if !slices.Equal(got, []api.Line{{From: 0, To: 3, Cells: 3, End: api.Cut}, {From: 3, To: 4, Cells: 1, End: api.Must}}) {
		t.Errorf("P14.1: %v", got)
	}
}

// P14.1: all of it fits: one line, that ends by Must, whatever may be done ahead of it.
func TestOneLine(t *testing.T) {
	breaks(t, "a", 1, 8, "a!1")
	breaks(t, "abc", 3, 8, "abc!3")
	breaks(t, "a|b|c", 3, 8, "abc!3")
	breaks(t, "a-b-c", 3, 8, "abc!3")
	breaks(t, "a |b-c |d", 6, 8, "a bc d!6")
	breaks(t, "a |b-c |d  ", 6, 8, "a bc d  !6")
	breaks(t, "W", 2, 8, "W!2")
	breaks(t, "0", 1, 8, "0!0")
	breaks(t, " ", 1, 8, " !0")
	breaks(t, "=|=|=", 1, 8, "===!0")
}

// P14.1: a line ends at a May, of those that fit at the last one; a line that is just as wide as the width fits.
func TestEndsByMay(t *testing.T) {
	breaks(t, "ab |cd |ef |gh", 5, 8, "ab cd |5", "ef gh!5")
	breaks(t, "ab |cd |ef |gh", 4, 8, "ab |2", "cd |2", "ef |2", "gh!2")
	breaks(t, "ab |cd |ef |gh", 7, 8, "ab cd |5", "ef gh!5")
	breaks(t, "ab |cd |ef |gh", 8, 8, "ab cd ef |8", "gh!2")
	breaks(t, "a|b|c|d", 1, 8, "a|1", "b|1", "c|1", "d!1")
	breaks(t, "a|b|c|d", 3, 8, "abc|3", "d!1")
	breaks(t, "a|bcd|e", 3, 8, "a|1", "bcd|3", "e!1")
	breaks(t, "aW|Wa|W", 3, 8, "aW|3", "Wa|3", "W!2")
	breaks(t, "aW|Wa|W", 4, 8, "aW|3", "Wa|3", "W!2")
	breaks(t, "aW|Wa|W", 5, 8, "aW|3", "WaW!5")
}

// P14.1: a line ends at a Hyphen, with a cell for it.
func TestEndsByHyphen(t *testing.T) {
	breaks(t, "ab-cd", 3, 8, "ab-3", "cd!2")
	breaks(t, "ab-cd-ef", 5, 8, "abcd-5", "ef!2")
	breaks(t, "ab-cd-ef", 4, 8, "ab-3", "cdef!4")
	breaks(t, "ab-cd-ef", 3, 8, "ab-3", "cd-3", "ef!2")
	breaks(t, "W-W-W", 3, 8, "W-3", "W-3", "W!2")
	breaks(t, "a-bcd", 2, 8, "a-2", "bc/2", "d!1")
	breaks(t, "a-0-b-c", 2, 8, "a0-2", "bc!2")
}

// P14.1: a line ends at the Must behind its beginning alone; a Must that fits ends it whatever stands ahead.
func TestEndsByMust(t *testing.T) {
	breaks(t, "ab!cd", 9, 8, "ab!2")
	breaks(t, "a|b-!cd", 9, 8, "ab!2")
	breaks(t, "a |b!c", 1, 8, "a |1", "b!1")
	breaks(t, "abc!", 2, 8, "ab/2", "c!1")
	breaks(t, "a!b", 1, 8, "a!1")
}

// P14.1: the hyphen's cell counts at that end alone: where it doesn't fit, an earlier end is taken.
func TestHyphenTooWideEarlier(t *testing.T) {
	breaks(t, "a |bc-de", 4, 8, "a |1", "bcde!4")
	breaks(t, "a |bc-de", 5, 8, "a bc-5", "de!2")
	breaks(t, "a |bc-def", 4, 8, "a |1", "bc-3", "def!3")
	breaks(t, "a-b-c-d", 2, 8, "a-2", "b-2", "cd!2")
	breaks(t, "a-b-c-d", 3, 8, "ab-3", "cd!2")
	breaks(t, "a|W-a", 3, 8, "a|1", "Wa!3")
}

// P14.1: a hyphen that doesn't fit doesn't end the search: a later end, without one, may fit.
func TestHyphenTooWideLater(t *testing.T) {
	breaks(t, "ab-0|cd", 2, 8, "ab0|2", "cd!2")
	breaks(t, "ab- |cd", 2, 8, "ab |2", "cd!2")
	breaks(t, "ab-  _=0|cd", 2, 8, "ab  _=0|2", "cd!2")
	breaks(t, "ab-0-0|cd", 2, 8, "ab00|2", "cd!2")
	breaks(t, "ab- !", 2, 8, "ab !2")
	breaks(t, "ab-0!cd", 2, 8, "ab0!2")
	breaks(t, "ab-0", 2, 8, "ab0!2")
	breaks(t, "W-0|W-", 2, 8, "W0|2", "W!2")
}

// P14.1: of several ends that fit the greatest one, also where one between doesn't fit and a later one does.
func TestHyphenTooWideBetween(t *testing.T) {
	breaks(t, "a|b- |cd", 2, 8, "ab |2", "cd!2")
	breaks(t, "a|b-0|cd", 2, 8, "ab0|2", "cd!2")
	breaks(t, "a-b-0|cd", 2, 8, "ab0|2", "cd!2")
	breaks(t, "a|b-0cd", 2, 8, "a|1", "b-2", "0cd!2")
	breaks(t, "a |bc- - |de", 4, 8, "a bc  |4", "de!2")
	breaks(t, "a|b-0!cd", 2, 8, "ab0!2")
	breaks(t, "a|b-0|0- -cd", 2, 8, "ab0|2", "0 -1", "cd!2")
}

// P14.1: behind what is empty the line goes on without getting wider; it ends behind the last of it where it may.
func TestEndsBehindEmpty(t *testing.T) {
	breaks(t, "a| | | |b", 1, 8, "a   |1", "b!1")
	breaks(t, "a|0|0|0|b", 1, 8, "a000|1", "b!1")
	breaks(t, "a|=|=|_|b", 1, 8, "a==_|1", "b!1")
	breaks(t, "a| | | b", 1, 8, "a  |1", " /0", "b!1")
	breaks(t, "a  |  b", 1, 8, "a  |1", "  /0", "b!1")
	breaks(t, "a  |  |b", 1, 8, "a    |1", "b!1")
	breaks(t, "ab    ", 2, 8, "ab    !2")
	breaks(t, "a    |b", 3, 8, "a    |1", "b!1")
	breaks(t, "a |0 0|b", 1, 8, "a 0 0|1", "b!1")
	breaks(t, "a |b    ", 3, 8, "a b    !3")
	breaks(t, "a |b    ", 2, 8, "a |1", "b    !1")
}

// P14.1: what is empty counts where something that isn't stands behind it, and at a line's beginning, too.
func TestEmptyWithin(t *testing.T) {
	breaks(t, "a = |b", 4, 8, "a = |1", "b!1")
	breaks(t, "a = |b", 5, 8, "a = |1", "b!1")
	breaks(t, "a = |b", 6, 8, "a = b!6")
	breaks(t, "  a|b", 3, 8, "  a|3", "b!1")
	breaks(t, "  a|b", 4, 8, "  ab!4")
	breaks(t, "  |a|b", 2, 8, "  |0", "ab!2")
	breaks(t, "_0a|b", 1, 8, "_0a|1", "b!1")
	breaks(t, "a_0_b|c", 2, 8, "a_0_b|2", "c!1")
}

// P14.1: a hyphen behind what is empty alone has a cell, and so fits every width.
func TestHyphenBehindEmpty(t *testing.T) {
	breaks(t, "0-ab", 1, 8, "0-1", "a/1", "b!1")
	breaks(t, " -ab", 1, 8, " -1", "a/1", "b!1")
	breaks(t, "0-0-ab", 1, 8, "00-1", "a/1", "b!1")
	breaks(t, "a0-bc", 1, 8, "a0/1", "b/1", "c!1")
	breaks(t, "a0-bc", 2, 8, "a0-2", "bc!2")
	breaks(t, "a -bc", 2, 8, "a -2", "bc!2")
}

// P14.1: no end fits: the greatest boundary that fits without a hyphen, by Cut.
func TestEndsByCut(t *testing.T) {
	breaks(t, "abcdefg", 3, 8, "abc/3", "def/3", "g!1")
	breaks(t, "abcdef", 3, 8, "abc/3", "def!3")
	breaks(t, "abcd|ef", 3, 8, "abc/3", "def!3")
	breaks(t, "abcd|efg", 3, 8, "abc/3", "d|1", "efg!3")
	breaks(t, "abcd|ef", 2, 8, "ab/2", "cd|2", "ef!2")
	breaks(t, "aWWa", 4, 8, "aW/3", "Wa!3")
	breaks(t, "WWW", 3, 8, "W/2", "W/2", "W!2")
	breaks(t, "ab |cdefgh |i", 4, 8, "ab |2", "cdef/4", "gh i!4")
}

// P14.1: by Cut, too, the line goes on behind what is empty, as far as it doesn't get wider.
func TestCutBehindEmpty(t *testing.T) {
	breaks(t, "ab  cd", 2, 8, "ab  /2", "cd!2")
	breaks(t, "ab00cd", 2, 8, "ab00/2", "cd!2")
	breaks(t, "ab  cd", 3, 8, "ab  /2", "cd!2")
	breaks(t, "ab =cd", 4, 8, "ab =/2", "cd!2")
	breaks(t, "    a", 2, 8, "    /0", "a!1")
	breaks(t, "0000W", 1, 8, "0000/0", "W!2")
}

// P14.1: Hyphen stands where only Cut fits: it ends by Cut, and no hyphen is counted.
func TestCutAtHyphen(t *testing.T) {
	breaks(t, "ab-cd", 2, 8, "ab/2", "cd!2")
	breaks(t, "a-b", 1, 8, "a/1", "b!1")
	breaks(t, "a-b-c", 1, 8, "a/1", "b/1", "c!1")
	breaks(t, "abc-def-g", 3, 8, "abc/3", "def/3", "g!1")
	breaks(t, "ab0-cd", 2, 8, "ab0/2", "cd!2")
	breaks(t, "ab-0cd", 2, 8, "ab0/2", "cd!2")
	breaks(t, "ab- -cd", 2, 8, "ab /2", "cd!2")
	breaks(t, "W-W", 2, 8, "W/2", "W!2")
}

// P14.1: not one cluster fits: the first one alone, by Cut, or by Must or May where that stands behind it; by Cut, where Hyphen does.
func TestFirstClusterTooWide(t *testing.T) {
	breaks(t, "W", 1, 8, "W!2")
	breaks(t, "WW", 1, 8, "W/2", "W!2")
	breaks(t, "W|W", 1, 8, "W|2", "W!2")
	breaks(t, "W-W", 1, 8, "W/2", "W!2")
	breaks(t, "W!W", 1, 8, "W!2")
	breaks(t, "WaW", 1, 8, "W/2", "a/1", "W!2")
	breaks(t, "a|W|a", 1, 8, "a|1", "W|2", "a!1")
	breaks(t, "a-W-a", 1, 8, "a/1", "W/2", "a!1")
	breaks(t, "Wa|", 1, 8, "W/2", "a!1")
	breaks(t, "t|a", 1, 2, "t|2", "a!1")
	breaks(t, "t-a", 7, 8, "t/8", "a!1")
	breaks(t, "ta", 63, 64, "t/64", "a!1")
	breaks(t, "t", 63, 64, "t!64")
}

// P14.1: what is empty behind a cluster that doesn't fit isn't of its line, and is one of its own, or of what follows.
func TestEmptyBehindTooWide(t *testing.T) {
	breaks(t, "W |a", 1, 8, "W/2", " |0", "a!1")
	breaks(t, "W| |a", 1, 8, "W|2", " |0", "a!1")
	breaks(t, "W0", 1, 8, "W/2", "0!0")
	breaks(t, "W-0-a", 1, 8, "W/2", "0a!1")
	breaks(t, "W-0-W", 1, 8, "W/2", "0-1", "W!2")
	breaks(t, "W  ", 1, 8, "W/2", "  !0")
	breaks(t, "W0a", 1, 8, "W/2", "0a!1")
	breaks(t, "0W|a", 1, 8, "0/0", "W|2", "a!1")
	breaks(t, " W", 1, 8, " /0", "W!2")
}

// P14.1: Width 1: each cluster that isn't empty is a line.
func TestWidthOne(t *testing.T) {
	breaks(t, "a", 1, 1, "a!1")
	breaks(t, "abc", 1, 1, "a/1", "b/1", "c!1")
	breaks(t, "a |b-c", 1, 1, "a |1", "b/1", "c!1")
	breaks(t, "aWtb", 1, 1, "a/1", "W/2", "t/1", "b!1")
	breaks(t, "aWtb", 1, 64, "a/1", "W/2", "t/64", "b!1")
	breaks(t, sorts, 1, 8, "0a/1", "W/2", "_ =/0", "t/8", "u/8", "v!8")
}

// P14.1: Width 2^20: every text fits, the longest ones of Tabs, too.
func TestWidthGreatest(t *testing.T) {
	c := api.Config{Width: api.MaxWidth, Tab: api.MaxTab}
	for letter, cells := range map[string]int{"a": 4096, "W": 8192, "t": 262144, " ": 0, "0": 0} {
		for _, mark := range []api.Opp{api.Keep, api.May, api.Hyphen} {
			p := text(strings.Repeat(letter, api.MaxText))
			for at := 1; at < api.MaxText; at++ {
				p.Opps[at] = mark
			}
			got := first.Break(p, 0, api.MaxText, c)
			if !slices.Equal(got, []api.Line{{To: 4096, Cells: cells, End: api.Must}}) {
				t.Errorf("P14.1: of %q: %v", letter, got)
			}
		}
	}
	breaks(t, "a |b-c|t", 1<<20, 64, "a bct!64")
}

// P14.1: the longest text there is, in as many lines as there may be.
func TestLong(t *testing.T) {
	p := text(strings.Repeat("a", api.MaxText))
	for _, width := range []int{1, 2, 64, 2048, 4095, 4096} {
		c := api.Config{Width: width, Tab: 8}
		got := first.Break(p, 0, api.MaxText, c)
		if want := (api.MaxText + width - 1) / width; len(got) != want {
			t.Errorf("P14.1: width %d: %d lines, want %d", width, len(got), want)
		}
		holds(t, p, 0, api.MaxText, c, got)
	}
}

// P14.1: a Tab leads to a column of its line, whatever stands ahead of the line; one at the end counts.
func TestTabs(t *testing.T) {
	for _, tab := range []string{"t", "u", "v"} {
		breaks(t, "a"+tab+"|b", 4, 4, "a"+tab+"|4", "b!1")
		breaks(t, "a"+tab+"|b", 3, 4, "a/1", tab+"|4", "b!1")
		breaks(t, "a"+tab+"|b", 5, 4, "a"+tab+"b!5")
		breaks(t, "a|"+tab+"|b", 3, 4, "a|1", tab+"|4", "b!1")
		breaks(t, "abcd|"+tab+"e|f", 5, 4, "abcd|4", tab+"e|5", "f!1")
		breaks(t, "abcd|"+tab+"e|f", 9, 4, "abcd"+tab+"e|9", "f!1")
		breaks(t, "ab|c"+tab+"|d", 4, 4, "abc"+tab+"|4", "d!1")
		breaks(t, "a "+tab+"|b", 3, 4, "a /1", tab+"|4", "b!1")
		breaks(t, "a "+tab+" |b", 4, 4, "a "+tab+" |4", "b!1")
		breaks(t, tab+"-"+tab+"|a", 4, 4, tab+"/4", tab+"|4", "a!1")
		breaks(t, tab+"-"+tab+"|a", 5, 4, tab+"-5", tab+"a!5")
	}
}

// P14.1: Tab 1 and Tab 64, the least and the greatest.
func TestTabsLeastAndGreatest(t *testing.T) {
	breaks(t, "atb|tc", 3, 1, "atb|3", "tc!2")
	breaks(t, "ttt", 2, 1, "tt/2", "t!1")
	breaks(t, "atb|tc", 65, 64, "atb|65", "tc!65")
	breaks(t, "atb|tc", 64, 64, "at/64", "b|1", "t/64", "c!1")
	breaks(t, "ttt", 128, 64, "tt/128", "t!64")
	breaks(t, "t|t|t", 127, 64, "t|64", "t|64", "t!64")
	breaks(t, "t-t|t", 128, 64, "tt|128", "t!64")
	breaks(t, "t-t-t", 128, 64, "t-65", "tt!128")
}

// P14.1: a part that begins within the text: neither what is ahead of it nor what is behind it counts.
func TestPartWithin(t *testing.T) {
	breaksFrom(t, "ab!cd |ef!gh", 2, 3, 8, "cd |2", "ef!2")
	breaksFrom(t, "ab!cd |ef!gh", 2, 9, 8, "cd ef!5")
	breaksFrom(t, "ab!cd |ef!gh", 7, 9, 8, "gh!2")
	breaksFrom(t, "abc!te|f!t", 3, 4, 4, "t/4", "ef!2")
	breaksFrom(t, "abc!te|f!t", 3, 5, 4, "te|5", "f!1")
	breaksFrom(t, "a!!b", 1, 1, 8, "b!1")
	breaksFrom(t, "a!b!c", 1, 9, 8, "b!1")
	breaksFrom(t, "a! !c", 1, 9, 8, " !0")
}

// P14.1: from a boundary that is no part's beginning, whatever may be done there.
func TestFromWithin(t *testing.T) {
	breaksFrom(t, "abcde", 1, 2, 8, "bc/2", "de!2")
	breaksFrom(t, "abcde", 4, 2, 8, "e!1")
	breaksFrom(t, "ab|cd|e", 2, 2, 8, "cd|2", "e!1")
	breaksFrom(t, "ab|cd|e", 1, 2, 8, "b|1", "cd|2", "e!1")
	breaksFrom(t, "ab-cd-e", 2, 3, 8, "cde!3")
	breaksFrom(t, "ab-cd-ef", 3, 2, 8, "d-2", "ef!2")
	breaksFrom(t, "a  |b", 1, 1, 8, "  |0", "b!1")
	breaksFrom(t, "a  |b", 2, 1, 8, " |0", "b!1")
	breaksFrom(t, "abt|c!d", 2, 4, 4, "t|4", "c!1")
	breaksFrom(t, "abt|c!d", 1, 4, 4, "bt|4", "c!1")
	breaksFrom(t, "ab!cd!e", 1, 9, 8, "b!1")
	breaksFrom(t, "ab!cd!e", 3, 9, 8, "d!1")
}

// P14.1: of nothing between: no lines, at any boundary.
func TestNothingBetween(t *testing.T) {
	for _, width := range []int{1, 3, api.MaxWidth} {
		c := api.Config{Width: width, Tab: 8}
		for _, told := range []string{"", "a", "W", "ab!cd |ef-g", sorts} {
			p := text(told)
			for at := range p.Opps {
				if got := first.Break(p, at, at, c); len(got) != 0 {
					t.Errorf("P14.1: %q from %d to itself: %v", told, at, got)
				}
			}
		}
	}
}

// P14.1: of the way only Width and Tab count: lines are as long as may be whatever the mode is, and whatever hyphens cost.
func TestOtherWays(t *testing.T) {
	for _, told := range []string{"aa |bb", "ab-cd-ef |gh", "W-W", "atb|tc"} {
		p := text(told)
		for width := 1; width < 9; width++ {
			want := first.Break(p, 0, len(p.Clusters), api.Config{Width: width, Tab: 4})
			for _, c := range []api.Config{{Mode: api.Best}, {Hyphen: api.MaxCost}, {Pair: api.MaxCost}, {Mode: api.Best, Hyphen: 7, Pair: 9, Loose: -1}} {
				c.Width, c.Tab = width, 4
				if got := first.Break(p, 0, len(p.Clusters), c); !slices.Equal(got, want) {
					t.Errorf("P14.1: %q by %v: %v, want %v", told, c, got, want)
				}
			}
		}
	}
}

// P14.1: how many bytes clusters have, and where they stand in the text, says nothing.
func TestBytesSayNothing(t *testing.T) {
	p := text("aa |bb-W0c")
	c := api.Config{Width: 3, Tab: 8}
	want := first.Break(p, 0, 8, c)
	at := 0
	for i := range p.Clusters {
		p.Clusters[i].At, p.Clusters[i].Len = at, 1+i*i%5
		at += p.Clusters[i].Len
	}
	if got := first.Break(p, 0, 8, c); !slices.Equal(got, want) || len(want) != 3 {
		t.Errorf("P14.1: %v, want %v", got, want)
	}
}
