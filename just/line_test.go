package just_test

import (
	"slices"
	"testing"

	"stanza/api"
	"stanza/just"
	"stanza/lines"
	"stanza/span"
)

// P18.2: a line that ends where it may has its room in its spaces, the more the later; the text's last one stays as it is.
func TestLineFills(t *testing.T) {
	fills(t, "a b |ccccc", way(6), "a b |", "1 4 1", "ccccc!", "1 1 1 1 1")
	fills(t, "a b c |dddddd", way(6), "a b c |", "1 1 1 2 1", "dddddd!", "1 1 1 1 1 1")
	fills(t, "a b c |dddddd", way(8), "a b c |", "1 2 1 3 1", "dddddd!", "1 1 1 1 1 1")
	fills(t, "a b c d |eeeeeeeeeeee", way(12), "a b c d |", "1 2 1 3 1 3 1", "eeeeeeeeeeee!", "1 1 1 1 1 1 1 1 1 1 1 1")
	fills(t, "ab cd |e fg |hi", way(7), "ab cd |", "1 1 3 1 1", "e fg hi!", "1 1 1 1 1 1 1")
}

// P18.2: each thing that was done at an end: lines that end by May and by Hyphen are filled, those that end by Must and by Cut are not.
func TestLineEnds(t *testing.T) {
	fills(t, "a b|cc", way(4), "a b|", "1 2 1", "cc!", "1 1")
	fills(t, "a b-ccc", way(5), "a b-", "1 2 1", "ccc!", "1 1 1")
	fills(t, "a b!cc", way(5), "a b!", "1 1 1", "cc!", "1 1")
	fills(t, "a b", way(9), "a b!", "1 1 1")
	fills(t, "a bWW", way(4), "a b/", "1 1 1", "WW!", "2 2")
	fills(t, "a b-ccc", way(3), "a b/", "1 1 1", "ccc!", "1 1 1")
}

// P18.2: a cut line may have room, where a wide cluster or a tab doesn't fit: it stays as it is.
func TestLineCutWithRoom(t *testing.T) {
	fills(t, "a W", way(3), "a /", "1", "W!", "2")
	fills(t, "a bW", way(4), "a b/", "1 1 1", "W!", "2")
	fills(t, "a b-W", way(3), "a b/", "1 1 1", "W!", "2")
	fills(t, " ab tc", way(6), " ab /", "1 1 1", "tc!", "4 1")
	fills(t, " aWb cd", way(5), " aWb /", "1 1 2 1", "cd!", "1 1")
	for end := range api.Opp(5) {
		p := text("a bW")
		want := []int{1, 5, 1}
		if end == api.Must || end == api.Cut {
			want = []int{1, 1, 1}
		}
		if end == api.Hyphen {
			want = []int{1, 4, 1}
		}
		if got := just.Line(p, span.Make(p, 0, 3, end, 4), way(7)); !slices.Equal(got, want) {
			t.Errorf("P18.2: a line that ends by %d: %v, want %v", end, got, want)
		}
	}
}

// P18.2: how a line ends is what the line says, whatever may be done in the text at that place.
func TestLineEndIsTheLines(t *testing.T) {
	for _, told := range []string{"a b|c", "a b-c", "a b!c", "a bc"} {
		p := text(told)
		for end, want := range map[api.Opp][]int{api.May: {1, 4, 1}, api.Hyphen: {1, 3, 1}, api.Must: {1, 1, 1}, api.Cut: {1, 1, 1}} {
			if got := just.Line(p, span.Make(p, 0, 3, end, 4), way(6)); !slices.Equal(got, want) {
				t.Errorf("P18.2: %q, ended by %d: %v, want %v", told, end, got, want)
			}
		}
	}
}

// P18.2: a hyphen has a cell of the width, though no number of its own.
func TestLineHyphen(t *testing.T) {
	fills(t, "a b-cccc", way(6), "a b-", "1 3 1", "cccc!", "1 1 1 1")
	fills(t, "a bc-ddddd", way(5), "a bc-", "1 1 1 1", "ddddd!", "1 1 1 1 1")
	fills(t, "a b c-ddddd", way(8), "a b c-", "1 2 1 2 1", "ddddd!", "1 1 1 1 1")
	fills(t, "a b0 -cccc", way(6), "a b0 -", "1 3 1", "cccc!", "1 1 1 1")
	fills(t, "ab-cd", way(3), "ab-", "1 1", "cd!", "1 1")
	fills(t, "ab-cdef", way(4), "ab-", "1 1", "cdef!", "1 1 1 1")
	fills(t, "  -abc", way(3), "  -", "", "abc!", "1 1 1")
}

// P18.2: spaces at the beginning and within are gaps, one behind the other too; at the end there are no numbers of them.
func TestLineSpaces(t *testing.T) {
	fills(t, " a |bbbb", way(4), " a |", "3 1", "bbbb!", "1 1 1 1")
	fills(t, "  a  b   |cccccccc", way(8), "  a  b   |", "1 2 1 1 2 1", "cccccccc!", "1 1 1 1 1 1 1 1")
	fills(t, "a  b|cccccc", way(9), "a  b|", "1 3 4 1", "cccccc!", "1 1 1 1 1 1")
	fills(t, "a    |bb", way(2), "a    |", "1", "bb!", "1 1")
	fills(t, "a b  !c", way(9), "a b  !", "1 1 1", "c!", "1")
	fills(t, "a b  ", way(9), "a b  !", "1 1 1")
	fills(t, "   |abc", way(3), "   |", "", "abc!", "1 1 1")
	fills(t, "   ", way(3), "   !", "")
	fills(t, "   !a", way(3), "   !", "", "a!", "1")
}

// P18.2: spaces of no cell and of two are gaps as others are: what is spread comes upon their cells.
func TestLineSpacesOfAllCells(t *testing.T) {
	fills(t, "a_b|ccccc", way(5), "a_b|", "1 3 1", "ccccc!", "1 1 1 1 1")
	fills(t, "a=b|ccccc", way(5), "a=b|", "1 3 1", "ccccc!", "1 1 1 1 1")
	fills(t, "a_b=c d|eeeeeeeeee", way(12), "a_b=c d|", "1 1 1 4 1 3 1", "eeeeeeeeee!", "1 1 1 1 1 1 1 1 1 1")
	fills(t, "_a=_|bbb", way(3), "_a=_|", "2 1", "bbb!", "1 1 1")
	fills(t, "_|ab", way(1), "_|", "", "a/", "1", "b!", "1")
}

// P18.2: without a space there is no gap: the line stays narrower.
func TestLineWithoutSpaces(t *testing.T) {
	fills(t, "a|bbbb", way(4), "a|", "1", "bbbb!", "1 1 1 1")
	fills(t, "aW0|bbbb", way(5), "aW0|", "1 2", "bbbb!", "1 1 1 1")
	fills(t, "at|bbbb", way(6), "at|", "1 3", "bbbb!", "1 1 1 1")
	fills(t, "ab-cccc", way(5), "ab-", "1 1", "cccc!", "1 1 1 1")
}

// P18.2: clusters without cells and wide ones keep their cells; those without at the end have no number.
func TestLineCells(t *testing.T) {
	fills(t, "0W a0 |bbbbbbb", way(7), "0W a0 |", "0 2 4 1", "bbbbbbb!", "1 1 1 1 1 1 1")
	fills(t, "W 0 W|aaaaaaaa", way(9), "W 0 W|", "2 2 0 3 2", "aaaaaaaa!", "1 1 1 1 1 1 1 1")
	fills(t, "a 0|bbb", way(3), "a 0|", "1", "bbb!", "1 1 1")
	fills(t, "00|a", way(3), "00a!", "0 0 1")
	fills(t, "00 |aaa", way(2), "00 |", "", "aa/", "1 1", "a!", "1")
	fills(t, "0!0 0!a", way(2), "0!", "", "0 0!", "", "a!", "1")
}

// P18.2: a tab is as wide as it was ahead of spreading, from the line's beginning on; it isn't a gap, and it isn't empty at the end.
func TestLineTabs(t *testing.T) {
	fills(t, "atb c|ddddddd", way(9), "atb c|", "1 3 1 3 1", "ddddddd!", "1 1 1 1 1 1 1")
	fills(t, "a tb|ccccccc", way(8), "a tb|", "1 4 2 1", "ccccccc!", "1 1 1 1 1 1 1")
	fills(t, "abcd t|eeeeeeeeeee", way(11), "abcd t|", "1 1 1 1 4 3", "eeeeeeeeeee!", "1 1 1 1 1 1 1 1 1 1 1")
	fills(t, "a t |bbbbb", way(6), "a t |", "1 3 2", "bbbbb!", "1 1 1 1 1")
	fills(t, "t at a|bbbbbbbbbbbbb", way(13), "t at a|", "4 2 1 2 3 1", "bbbbbbbbbbbbb!", "1 1 1 1 1 1 1 1 1 1 1 1 1")
	fills(t, " u v|aaaaaaaaaa", way(10), " u v|", "2 3 2 3", "aaaaaaaaaa!", "1 1 1 1 1 1 1 1 1 1")
	fills(t, "abc|d te|ffffff", way(6), "abc|", "1 1 1", "d te|", "1 2 2 1", "ffffff!", "1 1 1 1 1 1")
	fills(t, "t|t", way(3), "t|", "4", "t!", "4")
}

// P18.2: each tab that a way may have.
func TestLineTabOfWays(t *testing.T) {
	for tab := 1; tab <= api.MaxTab; tab++ {
		c := way(100)
		c.Tab = tab
		p := text("atb c|")
		behind := max(tab, 2)
		if got, want := just.Line(p, span.Make(p, 0, 5, api.May, tab), c), []int{1, behind - 1, 1, 100 - behind - 2, 1}; !slices.Equal(got, want) {
			t.Errorf("P18.2: tab %d: %v, want %v", tab, got, want)
		}
	}
}

// P18.2: lines as wide as the width, and wider ones, of one cluster alone: nothing is spread.
func TestLineWithoutRoom(t *testing.T) {
	fills(t, "a b |cc", way(3), "a b |", "1 1 1", "cc!", "1 1")
	fills(t, "a b-cc", way(4), "a b-", "1 1 1", "cc!", "1 1")
	fills(t, "  a|bbb", way(3), "  a|", "1 1 1", "bbb!", "1 1 1")
	fills(t, "W|a", way(1), "W|", "2", "a!", "1")
	fills(t, "W  |a", way(1), "W/", "2", "  |", "", "a!", "1")
	fills(t, "Wa", way(1), "W/", "2", "a!", "1")
	fills(t, "W-a", way(2), "W/", "2", "a!", "1")
	fills(t, "t|a", way(1), "t|", "4", "a!", "1")
	fills(t, "v", way(1), "v!", "4")
}

// P18.2: lines that cost least are filled as those that are as long as may be.
func TestLineBest(t *testing.T) {
	fills(t, "aaa |bbb |c |dddd |eeeeeeeee", best(way(9)), "aaa bbb |", "1 1 1 3 1 1 1", "c dddd |", "1 4 1 1 1 1", "eeeeeeeee!", "1 1 1 1 1 1 1 1 1")
	fills(t, "aaa |bbb |c |dddd |eeeeeeeee", way(9), "aaa bbb c |", "1 1 1 1 1 1 1 1 1", "dddd |", "1 1 1 1", "eeeeeeeee!", "1 1 1 1 1 1 1 1 1")
	fills(t, "a b-cc", best(way(4)), "a b-", "1 1 1", "cc!", "1 1")
	fills(t, "a b-cccc", best(way(6)), "a b-", "1 3 1", "cccc!", "1 1 1 1")
}

// P18.2: lines of several parts: each part's last one stays as it is.
func TestLineParts(t *testing.T) {
	fills(t, "a b |ccc!d e |fff!g h", way(4), "a b |", "1 2 1", "ccc!", "1 1 1", "d e |", "1 2 1", "fff!", "1 1 1", "g h!", "1 1 1")
	fills(t, " ! a! ", way(4), " !", "", " a!", "1 1", " !", "")
}

// P18.2: a line by another way: it is measured by the way that is handed in, so it fills that one's width; where it is wider, it stays as it is.
func TestLineByOtherWays(t *testing.T) {
	p := text("atb c|ddd")
	l, _ := lines.Break(p, way(7))
	if len(l) != 2 || l[0].To != 5 || l[0].Cells != 7 {
		t.Fatalf("lines %v", l)
	}
	for _, told := range []struct {
		width, tab int
		want       []int
	}{
		{7, 4, []int{1, 3, 1, 1, 1}}, {8, 4, []int{1, 3, 1, 2, 1}}, {20, 4, []int{1, 3, 1, 14, 1}},
		{6, 4, []int{1, 3, 1, 1, 1}}, {1, 4, []int{1, 3, 1, 1, 1}},
		{20, 8, []int{1, 7, 1, 10, 1}}, {11, 8, []int{1, 7, 1, 1, 1}}, {10, 8, []int{1, 7, 1, 1, 1}},
		{7, 2, []int{1, 1, 1, 3, 1}}, {5, 2, []int{1, 1, 1, 1, 1}},
		{api.MaxWidth, 64, []int{1, 63, 1, api.MaxWidth - 66, 1}},
	} {
		c := way(told.width)
		c.Tab = told.tab
		if got := just.Line(p, l[0], c); !slices.Equal(got, told.want) {
			t.Errorf("P18.2: width %d, tab %d: %v, want %v", told.width, told.tab, got, told.want)
		}
	}
}

// P18.2: of a way only its width and its tab count.
func TestLineWays(t *testing.T) {
	p := text("a b|ccc")
	l := span.Make(p, 0, 3, api.May, 4)
	for _, c := range []api.Config{way(6), best(way(6)), {Width: 6, Tab: 4, Hyphen: api.MaxCost, Pair: api.MaxCost, Loose: -1}} {
		right(t, p, c)
		if got := just.Line(p, l, c); !slices.Equal(got, []int{1, 4, 1}) {
			t.Errorf("P18.2: %v: %v", c, got)
		}
	}
}

// What README.md tells.
func TestReadme(t *testing.T) {
	p := api.Para{
		Clusters: []api.Cluster{{Len: 1, Cells: 1}, {At: 1, Len: 1, Cells: 1, Kind: api.Space}, {At: 2, Len: 1, Cells: 1}, {At: 3, Len: 1, Cells: 1, Kind: api.Space}, {At: 4, Len: 1, Cells: 1}, {At: 5, Len: 1, Cells: 1, Kind: api.Space}, {At: 6, Len: 1, Cells: 1}, {At: 7, Len: 1, Cells: 1}},
		Opps:     []api.Opp{api.Keep, api.Keep, api.May, api.Keep, api.May, api.Keep, api.May, api.Hyphen, api.Must},
	}
	c := api.Config{Width: 7, Tab: 8}
	right(t, p, c)
	l, _ := lines.Break(p, c)
	want := []api.Line{{To: 6, Cells: 5, End: api.May}, {From: 6, To: 8, Cells: 2, End: api.Must}}
	if !slices.Equal(l, want) {
		t.Fatalf("lines %v", l)
	}
	for line, told := range map[api.Line]string{l[0]: "1 2 1 2 1", l[1]: "1 1", span.Make(p, 4, 7, api.Hyphen, 8): "1 4 1", span.Make(p, 0, 6, api.Cut, 8): "1 1 1 1 1"} {
		if got := tell(just.Line(p, line, c)); got != told {
			t.Errorf("P18.2: %v: %q, want %q", line, got, told)
		}
	}
	spreads(t, 7, 3, 2, 2, 3)
}
