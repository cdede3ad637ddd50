package lines_test

import (
	"slices"
	"testing"

	"stanza/api"
	"stanza/lines"
)

// rows holds Rows of a text that is broken.
func rows(t *testing.T, told string, c api.Config, want ...api.Row) {
	t.Helper()
	p := text(told)
	right(t, p, c)
	l, _ := lines.Break(p, c)
	if got := lines.Rows(p, l); !slices.Equal(got, want) {
		t.Errorf("P16.2: Rows of %q by %v: %v, want %v", told, c, got, want)
	}
}

// P16.2: clusters of one byte each: the bytes are the boundaries.
func TestRowsOfBytes(t *testing.T) {
	rows(t, "a", way(1), api.Row{To: 1, Cells: 1, End: api.Must})
	rows(t, "aa |bb", way(3), api.Row{To: 3, Cells: 2, End: api.May}, api.Row{From: 3, To: 5, Cells: 2, End: api.Must})
	rows(t, words, way(9), api.Row{To: 8, Cells: 7, End: api.May}, api.Row{From: 8, To: 15, Cells: 6, End: api.May}, api.Row{From: 15, To: 24, Cells: 9, End: api.Must})
}

// P16.2: clusters of several bytes: From and To are bytes, Cells and End those of the line.
func TestRowsOfSeveralBytes(t *testing.T) {
	rows(t, "W", way(2), api.Row{To: 3, Cells: 2, End: api.Must})
	rows(t, "W", way(1), api.Row{To: 3, Cells: 2, End: api.Must})
	rows(t, "0", way(1), api.Row{To: 2, End: api.Must})
	rows(t, "WW|Wa", way(4), api.Row{To: 6, Cells: 4, End: api.May}, api.Row{From: 6, To: 10, Cells: 3, End: api.Must})
	rows(t, "aW0-=a!WWu", longest(way(4)),
		api.Row{To: 6, Cells: 4, End: api.Hyphen}, api.Row{From: 6, To: 11, Cells: 3, End: api.Must},
		api.Row{From: 11, To: 17, Cells: 4, End: api.Cut}, api.Row{From: 17, To: 19, Cells: 8, End: api.Must})
	p := api.Para{Clusters: []api.Cluster{{Len: 4000, Cells: 1}, {At: 4000, Len: 95, Cells: 2}, {At: 4095, Len: 1, Cells: 1}}, Opps: []api.Opp{api.Keep, api.Hyphen, api.May, api.Must}}
	l, _ := lines.Break(p, way(2))
	if got := lines.Rows(p, l); !slices.Equal(got, []api.Row{{To: 4000, Cells: 2, End: api.Hyphen}, {From: 4000, To: 4095, Cells: 2, End: api.May}, {From: 4095, To: 4096, Cells: 1, End: api.Must}}) {
		t.Errorf("P16.2: %v", got)
	}
}

// P16.2: each end there is, each once: May, Must, Hyphen, Cut.
func TestRowsEnds(t *testing.T) {
	rows(t, "ab|c-ddd!e", way(2), api.Row{To: 2, Cells: 2, End: api.May}, api.Row{From: 2, To: 3, Cells: 2, End: api.Hyphen}, api.Row{From: 3, To: 5, Cells: 2, End: api.Cut}, api.Row{From: 5, To: 6, Cells: 1, End: api.Must}, api.Row{From: 6, To: 7, Cells: 1, End: api.Must})
}

// P16.2: of no lines one row of nothing, whatever the text is, nil and an empty list alike (R5).
func TestRowsOfNoLines(t *testing.T) {
	room := []api.Line{{From: 1, To: 2, Cells: 3, End: api.Cut}}
	for _, told := range []string{"", "a", "WW|a!b-c"} {
		for _, l := range [][]api.Line{nil, {}, room[:0]} {
			if got := lines.Rows(text(told), l); !slices.Equal(got, []api.Row{{End: api.Must}}) {
				t.Errorf("P16.2, R5: Rows of %q and no lines: %v", told, got)
			}
		}
	}
	if got := lines.Rows(api.Para{}, nil); !slices.Equal(got, []api.Row{{End: api.Must}}) {
		t.Errorf("P16.2: Rows of nothing: %v", got)
	}
}

// P16.2: lines of one part of a text alone, and single lines: in bytes of the text, not of the part.
func TestRowsOfSomeLines(t *testing.T) {
	p := text("Wa!0W|W!a")
	l, _ := lines.Part(p, 2, 5, way(2))
	want := []api.Row{{From: 4, To: 9, Cells: 2, End: api.May}, {From: 9, To: 12, Cells: 2, End: api.Must}}
	if got := lines.Rows(p, l); !slices.Equal(got, want) {
		t.Errorf("P16.2: of a part: %v, want %v", got, want)
	}
	if got := lines.Rows(p, l[1:]); !slices.Equal(got, want[1:]) {
		t.Errorf("P16.2: of one line: %v, want %v", got, want[1:])
	}
	l, _ = lines.Part(p, 5, 6, way(2))
	if got := lines.Rows(p, l); !slices.Equal(got, []api.Row{{From: 12, To: 13, Cells: 1, End: api.Must}}) {
		t.Errorf("P16.2: of the last part: %v", got)
	}
}

// holdRows holds Rows of all lines of a text: one behind the other, from the first byte to the last one (P4).
func holdRows(t *testing.T, p api.Para, l []api.Line) {
	t.Helper()
	got := lines.Rows(p, l)
	if len(l) == 0 {
		if !slices.Equal(got, []api.Row{{End: api.Must}}) {
			t.Fatalf("P16.2: of no lines: %v: %v", got, p)
		}
		return
	}
	if len(got) != len(l) {
		t.Fatalf("P16.2: %d rows of %d lines: %v", len(got), len(l), p)
	}
	end := 0
	for i, line := range l {
		size := 0
		for _, c := range p.Clusters[line.From:line.To] {
			size += c.Len
		}
		if want := (api.Row{From: end, To: end + size, Cells: line.Cells, End: line.End}); got[i] != want {
			t.Fatalf("P16.2, P4: row %d of %v: %v, want %v: %v", i, l, got[i], want, p)
		}
		end += size
	}
	last := p.Clusters[len(p.Clusters)-1]
	if end != last.At+last.Len {
		t.Fatalf("P4: rows up to byte %d: %v: %v", end, got, p)
	}
}
