package place_test

import (
	"strings"
	"testing"

	"stanza/api"
	"stanza/lines"
	"stanza/place"
)

// whole is a text of the most clusters there are, of letters of one byte that are told again and again, with one thing that may be done between any two.
func whole(letters string, mark api.Opp) api.Para {
	p := text(strings.Repeat(letters, api.MaxText/len(letters)+1)[:api.MaxText])
	for at := 1; at < api.MaxText; at++ {
		p.Opps[at] = mark
	}
	return p
}

// P17.1, P17.2: a text of 4096 clusters, in one row, in rows of one cluster each, and in some between.
func TestLarge(t *testing.T) {
	for _, told := range []struct {
		letters string
		mark    api.Opp
		width   int
		rows    int
		last    int // the column behind the last cluster
	}{
		{"a", api.Keep, 4096, 1, 4096},
		{"a", api.Keep, 4095, 2, 1},
		{"a", api.Must, 9, 4096, 1},
		{"a", api.Hyphen, 64, 65, 64},
		{"_", api.Keep, 1, 1, 0},
		{"_", api.Must, 1, 4096, 0},
		{"t", api.Keep, api.MaxWidth, 1, 4 * 4096},
		{"t", api.May, 64, 256, 64},
		{"ab ", api.May, 7, 547, 1},
	} {
		p, c := whole(told.letters, told.mark), way(told.width)
		right(t, p, c)
		l, _ := lines.Break(p, c)
		m, rows := place.Make(p, l, c.Tab), slowRows(p, l, c.Tab)
		if m.Rows() != told.rows {
			t.Fatalf("P17.1: %d rows of %q by width %d, want %d", m.Rows(), told.letters, told.width, told.rows)
		}
		if s := spotOf(t, m, api.MaxText, true); s != (api.Spot{Row: told.rows - 1, Col: told.last}) {
			t.Errorf("P17.2: the end of %q by width %d: %v", told.letters, told.width, s)
		}
		noSpot(t, m, api.MaxText+1, api.ErrRange)
		noByte(t, m, told.rows, 0, api.ErrRange)
		holdRise(t, m, p)
		for i, row := range rows {
			for k, here := range row[:len(row)-1] {
				if s := spotOf(t, m, here.byte, false); s != (api.Spot{Row: i, Col: here.col}) {
					t.Fatalf("P17.2: Spot of %d: %v, want row %d, column %d", here.byte, s, i, here.col)
				}
				if want := row[0].byte + k; told.letters != "_" {
					isByte(t, m, i, here.col, want)
				}
			}
			isByte(t, m, i, row[len(row)-1].col+1, row[len(row)-1].byte)
		}
	}
}

// P17.2: one cluster of 4096 bytes: each of them is its beginning.
func TestLongCluster(t *testing.T) {
	p := api.Para{Clusters: []api.Cluster{{Len: api.MaxText, Cells: 2}}, Opps: []api.Opp{api.Keep, api.Must}}
	right(t, p, way(1))
	m := broken(p, way(1))
	for at := range api.MaxText {
		if s := spotOf(t, m, at, at%2 == 0); s != (api.Spot{}) {
			t.Fatalf("P17.2: Spot of %d: %v", at, s)
		}
	}
	if s := spotOf(t, m, api.MaxText, false); s != (api.Spot{Col: 2}) {
		t.Errorf("P17.2: Spot of the end: %v", s)
	}
	bytes(t, m, 0, 0, 0, api.MaxText)
}
