package draw_test

import (
	"strings"
	"testing"

	"stanza/api"
	"stanza/draw"
	"stanza/lines"
	"stanza/span"
)

// P22.1: lines of 4095 clusters, with the greatest room there is.
func TestLarge(t *testing.T) {
	c := way(api.MaxWidth)
	for _, letters := range []string{strings.Repeat(" ", 4094) + "a", strings.Repeat("a ", 2047) + "a", " " + strings.Repeat("t", 4094)} {
		text, p := read(letters + "|b")
		right(t, text, p, c)
		for end := api.May; end <= api.Cut; end++ {
			holdRow(t, text, p, span.Make(p, 0, 4095, end, c.Tab), c)
		}
		if got := len(draw.Row(text, p, span.Make(p, 0, 4095, api.May, c.Tab), c, true)); got != api.MaxWidth {
			t.Errorf("P22.1: %q...: %d bytes", letters[:5], got)
		}
	}
	text, p := read(strings.Repeat("t", 4096))
	right(t, text, p, c)
	if got := string(draw.Row(text, p, span.Make(p, 0, 4096, api.Must, 64), tabbed(c, 64), true)); got != strings.Repeat(" ", 64*4096) {
		t.Errorf("P22.1: 4096 tabs: %d bytes", len(got))
	}
}

// P22.1: one cluster of 4096 bytes, of each number of cells.
func TestLargeCluster(t *testing.T) {
	text := []byte(strings.Repeat("x\u0301\xff ", api.MaxText)[:api.MaxText])
	for cells := range 3 {
		p := api.Para{Clusters: []api.Cluster{{Len: api.MaxText, Cells: cells}}, Opps: []api.Opp{api.Keep, api.Must}}
		right(t, text, p, way(1))
		want := string(text)
		if cells == 0 {
			want = ""
		}
		for _, full := range []bool{false, true} {
			if got := string(draw.Row(text, p, span.Make(p, 0, 1, api.Hyphen, 4), way(1), full)); got != want+"-" {
				t.Errorf("P22.1: of %d cells: %d bytes", cells, len(got))
			}
		}
	}
}

// P22.1: the longest text there is, in rows of several widths.
func TestLargeLines(t *testing.T) {
	text, p := read(strings.Repeat("ab |c  |0E- t|d!", 500))
	n := 0
	for n < len(p.Clusters) && p.Clusters[n].At+p.Clusters[n].Len <= api.MaxText {
		n++
	}
	p.Clusters, p.Opps = p.Clusters[:n], p.Opps[:n+1]
	p.Opps[n] = api.Must
	text = text[:p.Clusters[n-1].At+p.Clusters[n-1].Len]
	for _, width := range []int{1, 2, 3, 7, 20, 80, 1000, 4096} {
		right(t, text, p, way(width))
		hold(t, text, p, way(width))
	}
}

// P22.1: rows of 4096 lines.
func TestManyLines(t *testing.T) {
	for letter, want := range map[string]string{"a": "a", " ": "", "t": "    "} {
		text, p := read(strings.Repeat(letter+"!", api.MaxText))
		right(t, text, p, way(1))
		l, _ := lines.Break(p, way(1))
		rows := draw.All(text, p, l, way(1), true)
		if len(rows) != api.MaxText {
			t.Fatalf("P22.1: %d rows", len(rows))
		}
		for i, row := range rows {
			if string(row) != want {
				t.Errorf("P22.1: %q at %d, want %q", row, i, want)
			}
		}
	}
}
