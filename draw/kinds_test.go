package draw_test

import (
	"strings"
	"testing"

	"stanza/api"
	"stanza/draw"
)

// P22.1: of a Plain cluster its bytes: of 0, 1 and 2 cells, of one byte and of many, of bytes that are no sign.
func TestPlain(t *testing.T) {
	draws(t, "aE?W0Nb", way(20), "aE?W0Nb", "aE?W0Nb")
	draws(t, "W E ? |0a |bbbbbbbb", way(8), "W E ? 0a", "W E ? 0a", "bbbbbbbb", "bbbbbbbb")
	for cells := range 3 {
		for _, letters := range []string{"x", "\xff", "\u00e9", "\u65e5", "\U0001f600", "e\u0301\u0302", "\xf0\x9f", "\xe6\x97", "\x80\x80\x80", strings.Repeat("\u0301", 300)} {
			holdPlain(t, letters, cells)
		}
	}
}

// P22.1: all bytes that there are; also those of a space, a tab, a hyphen and a line's end, which are drawn as they are, where they are Plain.
func TestPlainBytes(t *testing.T) {
	for cells := range 3 {
		for b := range 256 {
			holdPlain(t, string([]byte{byte(b)}), cells)
			holdPlain(t, string([]byte{byte(b), 'x'}), cells)
			holdPlain(t, string([]byte{'x', byte(b)}), cells)
		}
		for _, letters := range []string{"  ", "\t\t", "a\tb", "\r\n", "--", " a "} {
			holdPlain(t, letters, cells)
		}
	}
}

// holdPlain holds rows with a Plain cluster of these bytes: within a line, and at its end, where one without cells is empty.
func holdPlain(t *testing.T, letters string, cells int) {
	t.Helper()
	n := len(letters)
	text := []byte("a" + letters + " b" + letters + "c")
	p := api.Para{
		Clusters: []api.Cluster{
			{Len: 1, Cells: 1}, {At: 1, Len: n, Cells: cells}, {At: n + 1, Len: 1, Cells: 1, Kind: api.Space},
			{At: n + 2, Len: 1, Cells: 1}, {At: n + 3, Len: n, Cells: cells}, {At: 2*n + 3, Len: 1, Cells: 1},
		},
		Opps: []api.Opp{api.Keep, api.Keep, api.Keep, api.Keep, api.Keep, api.May, api.Must},
	}
	c := way(3 + 2*cells + 5)
	right(t, text, p, c)
	last := letters
	if cells == 0 {
		last = ""
	}
	l := api.Line{To: 5, Cells: 3 + 2*cells, End: api.May}
	if got, want := string(draw.Row(text, p, l, c, false)), "a"+letters+" b"+last; got != want {
		t.Errorf("P22.1: %q of %d cells: %q, want %q", letters, cells, got, want)
	}
	if got, want := string(draw.Row(text, p, l, c, true)), "a"+letters+"      b"+last; got != want {
		t.Errorf("P22.1: %q of %d cells, filled: %q, want %q", letters, cells, got, want)
	}
}

// P22.1: Space and Tab are as many bytes 32 as they are wide, whatever bytes they have, and however many.
func TestBlanksByKind(t *testing.T) {
	for _, letters := range []string{" ", "\t", "x", "-", "\n", "\u00a0", "\xff", strings.Repeat("xy", 40)} {
		n := len(letters)
		text := []byte("a" + letters + "b" + letters + "c")
		p := api.Para{
			Clusters: []api.Cluster{{Len: 1, Cells: 1}, {At: 1, Len: n, Cells: 1, Kind: api.Space}, {At: n + 1, Len: 1, Cells: 1}, {At: n + 2, Len: n, Cells: 1, Kind: api.Tab}, {At: 2*n + 2, Len: 1, Cells: 1}},
			Opps:     []api.Opp{api.Keep, api.Keep, api.Keep, api.Keep, api.Keep, api.Must},
		}
		right(t, text, p, way(20))
		l := api.Line{To: 5, Cells: 9, End: api.Hyphen}
		if got := string(draw.Row(text, p, l, tabbed(way(20), 8), false)); got != "a b     c-" {
			t.Errorf("P22.1: %q: %q", letters, got)
		}
		if got := string(draw.Row(text, p, l, tabbed(way(12), 8), true)); got != "a   b     c-" {
			t.Errorf("P22.1: %q, filled: %q", letters, got)
		}
	}
}

// P22.1: a tab leads to the next tab stop from each column, whatever its cells are; so for each tab that a way may have.
func TestTabs(t *testing.T) {
	for tab := 1; tab <= api.MaxTab; tab++ {
		for col := range 2*tab + 2 {
			ahead := strings.Repeat("a", col)
			blanks := strings.Repeat(" ", (col/tab+1)*tab-col)
			for _, letter := range []string{"t", "u", "v"} {
				drawn(t, ahead+letter+"b", 0, col+2, api.May, tabbed(way(999), tab), ahead+blanks+"b", ahead+blanks+"b")
			}
		}
	}
}

// P22.1: tabs of 1 and of 64, several in a row, behind wide clusters and such without cells.
func TestTabEdges(t *testing.T) {
	full := strings.Repeat(" ", api.MaxTab)
	draws(t, "tatWt0tb", tabbed(way(30), 1), " a W 0 b", " a W 0 b")
	draws(t, "tatWt0tb", tabbed(way(999), api.MaxTab), full+"a"+full[1:]+"W"+full[2:]+"0"+full+"b", full+"a"+full[1:]+"W"+full[2:]+"0"+full+"b")
	draws(t, "t|t", way(3), "    ", "    ", "    ", "    ")
	draws(t, "at |bt!tN", way(6), "a   ", "a   ", "b   ", "b   ", "    ", "    ")
	draws(t, "Wt0tEt?tb", tabbed(way(40), 3), "W 0   E  ?  b", "W 0   E  ?  b")
}

// P22.1: a tab isn't empty, so what is ahead of it isn't at the line's end.
func TestTabAtEnd(t *testing.T) {
	draws(t, "a t|bbbbb", way(6), "a   ", "a     ", "bbbbb", "bbbbb")
	draws(t, "a t |bbbbb", way(6), "a   ", "a     ", "bbbbb", "bbbbb")
	draws(t, " 0t-bbbbb", way(7), " 0   -", "   0   -", "bbbbb", "bbbbb")
}

// P22.1: a tab behind spaces that are widened is as wide as its columns were, ahead of widening: as just.Line says.
func TestTabBehindWidened(t *testing.T) {
	draws(t, "a tb|ccccccc", way(8), "a   b", "a      b", "ccccccc", "ccccccc")
	draws(t, "atb c|ddddddd", way(9), "a   b c", "a   b   c", "ddddddd", "ddddddd")
	draws(t, " ta tb|cccccccccccc", way(12), "    a   b", "     a     b", "cccccccccccc", "cccccccccccc")
	draws(t, "t at a|bbbbbbbbbbbbb", way(13), "     a   a", "      a     a", "bbbbbbbbbbbbb", "bbbbbbbbbbbbb")
}
