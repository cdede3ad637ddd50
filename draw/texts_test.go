package draw_test

import (
	"bytes"
	"math"
	"slices"
	"strings"
	"testing"

	"stanza/api"
	"stanza/draw"
	"stanza/items"
	"stanza/lines"
	"stanza/span"
)

// sorts are letters of clusters, three a kind, by their cells: 0, a, W are Plain; _, a blank, = are Spaces; t, u, v are Tabs. Beside them stand N, E and ?: Plain ones of other bytes. Every other letter is a Plain cluster of itself, of one cell.
const (
	sorts = "0aW_ =tuv"
	more  = "NE?"
)

// marks are what stands, where texts and lines are told, for what may be done and what was done: each at the place of its number. Keep isn't written.
const marks = "\x00|!-/"

// bytesOf is a cluster's bytes by its letter: of one byte, of a sign of some, of several signs, of bytes that are no sign.
func bytesOf(letter byte) string {
	switch letter {
	case '0':
		return "\u0301"
	case 'W':
		return "\u65e5"
	case '_', '=':
		return " "
	case 't', 'u', 'v':
		return "\t"
	case 'N':
		return "\n"
	case 'E':
		return "e\u0301"
	case '?':
		return "\xf0\x9f"
	}
	return string([]byte{letter})
}

// cluster is a letter's, at some byte.
func cluster(letter byte, at int) api.Cluster {
	c := api.Cluster{At: at, Len: len(bytesOf(letter)), Cells: 1}
	if letter == 'N' {
		c.Cells = 0
	}
	if i := strings.IndexByte(sorts, letter); i >= 0 {
		c.Cells, c.Kind = i%3, api.Kind(i/3)
	}
	return c
}

// read makes a text, and its clusters, of letters, with a mark behind each one where something may be done; at its end stands Must.
func read(told string) ([]byte, api.Para) {
	var text []byte
	p := api.Para{Opps: []api.Opp{api.Keep}}
	for _, b := range []byte(told) {
		if mark := strings.IndexByte(marks, b); mark > 0 {
			p.Opps[len(p.Clusters)] = api.Opp(mark)
			continue
		}
		p.Clusters = append(p.Clusters, cluster(b, len(text)))
		p.Opps = append(p.Opps, api.Keep)
		text = append(text, bytesOf(b)...)
	}
	p.Opps[len(p.Clusters)] = api.Must
	return text, p
}

// seen is the bytes of a row that is told by letters; a blank and - are those bytes themselves.
func seen(row string) string {
	var b strings.Builder
	for _, letter := range []byte(row) {
		b.WriteString(bytesOf(letter))
	}
	return b.String()
}

// way is a way of mode First of some width.
func way(width int) api.Config {
	return api.Config{Width: width, Tab: 4, Loose: math.NaN()}
}

// best is a way in mode Best.
func best(c api.Config) api.Config {
	c.Mode = api.Best
	return c
}

// tabbed is a way with another tab.
func tabbed(c api.Config, tab int) api.Config {
	c.Tab = tab
	return c
}

func right(t *testing.T, text []byte, p api.Para, c api.Config) {
	t.Helper()
	if !items.Check(p) || !span.Check(c) || items.Bytes(p) != len(text) {
		t.Fatalf("no right text, or no right way: %q, %v, %v", text, p, c)
	}
}

// draws holds the rows of all lines of a text by a way: of each line as it is, then filled.
func draws(t *testing.T, told string, c api.Config, want ...string) {
	t.Helper()
	text, p := read(told)
	right(t, text, p, c)
	l, _ := lines.Break(p, c)
	var got, wanted []string
	for _, line := range l {
		got = append(got, string(draw.Row(text, p, line, c, false)), string(draw.Row(text, p, line, c, true)))
	}
	for _, row := range want {
		wanted = append(wanted, seen(row))
	}
	if !slices.Equal(got, wanted) {
		t.Errorf("P22.1: %q by %v: %q, want %q", told, c, got, wanted)
	}
}

// drawn holds the row of a line from a boundary of a text up to another one: as it is, and filled.
func drawn(t *testing.T, told string, from, to int, end api.Opp, c api.Config, want, filled string) {
	t.Helper()
	text, p := read(told)
	right(t, text, p, c)
	l := span.Make(p, from, to, end, c.Tab)
	if got := string(draw.Row(text, p, l, c, false)); got != seen(want) {
		t.Errorf("P22.1: %q from %d to %d, ended by %d, by %v: %q, want %q", told, from, to, end, c, got, seen(want))
	}
	if got := string(draw.Row(text, p, l, c, true)); got != seen(filled) {
		t.Errorf("P22.1: %q from %d to %d, ended by %d, filled, by %v: %q, want %q", told, from, to, end, c, got, seen(filled))
	}
}

// equal tells whether two lists of rows are the same.
func equal(a, b [][]byte) bool { return slices.EqualFunc(a, b, bytes.Equal) }

// The clusters that the tests take are all of which the document speaks, and texts are read as they are told.
func TestTexts(t *testing.T) {
	kinds := map[[2]int]int{}
	for i := range len(sorts) {
		c := cluster(sorts[i], 0)
		kinds[[2]int{int(c.Kind), c.Cells}]++
	}
	if len(kinds) != 9 || len(sorts) != 9 {
		t.Errorf("not each sort once: %v", kinds)
	}
	text, p := read("a |E-W!t?N")
	want := api.Para{
		Clusters: []api.Cluster{
			{Len: 1, Cells: 1}, {At: 1, Len: 1, Cells: 1, Kind: api.Space}, {At: 2, Len: 3, Cells: 1}, {At: 5, Len: 3, Cells: 2},
			{At: 8, Len: 1, Kind: api.Tab}, {At: 9, Len: 2, Cells: 1}, {At: 11, Len: 1},
		},
		Opps: []api.Opp{api.Keep, api.Keep, api.May, api.Hyphen, api.Must, api.Keep, api.Keep, api.Must},
	}
	if string(text) != "a e\u0301\u65e5\t\xf0\x9f\n" || !slices.Equal(p.Clusters, want.Clusters) || !slices.Equal(p.Opps, want.Opps) {
		t.Errorf("%q: %v", text, p)
	}
	if got := seen("a0 W-?"); got != "a\u0301 \u65e5-\xf0\x9f" {
		t.Errorf("seen: %q", got)
	}
}
