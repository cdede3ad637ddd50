package place_test

import (
	"math"
	"testing"

	"stanza/api"
	"stanza/lines"
	"stanza/place"
)

// The tests of this file hold all calls against slow ones of another make: bytes, rows and columns are counted one by one, without the layers below, and each case of the chapter is asked by itself.

// broken is the map of a text's lines by a way.
func broken(p api.Para, c api.Config) *place.Map {
	l, _ := lines.Break(p, c)
	return place.Make(p, l, c.Tab)
}

// slowPlace is a boundary of a row: its byte, its column.
type slowPlace struct{ byte, col int }

// slowRows are all boundaries of each row.
func slowRows(p api.Para, l []api.Line, tab int) [][]slowPlace {
	if len(l) == 0 {
		return [][]slowPlace{{{}}}
	}
	var rows [][]slowPlace
	here := slowPlace{}
	for _, line := range l {
		here.col = 0
		row := []slowPlace{here}
		for _, c := range p.Clusters[line.From:line.To] {
			here.byte += c.Len
			if c.Kind == api.Tab {
				here.col++
				for here.col%tab != 0 {
					here.col++
				}
			} else {
				here.col += c.Cells
			}
			row = append(row, here)
		}
		rows = append(rows, row)
	}
	return rows
}

// slowBytes is how many bytes the rows have.
func slowBytes(rows [][]slowPlace) int {
	last := rows[len(rows)-1]
	return last[len(last)-1].byte
}

// slowSpot goes through all clusters of all rows till it comes to that of a byte.
func slowSpot(rows [][]slowPlace, at int, back bool) api.Spot {
	for i, row := range rows {
		for k := range len(row) - 1 {
			if at >= row[k+1].byte {
				continue
			}
			if back && i > 0 && k == 0 {
				ahead := rows[i-1]
				return api.Spot{Row: i - 1, Col: ahead[len(ahead)-1].col}
			}
			return api.Spot{Row: i, Col: row[k].col}
		}
	}
	last := rows[len(rows)-1]
	return api.Spot{Row: len(rows) - 1, Col: last[len(last)-1].col}
}

// slowByte asks one case of the chapter behind the other.
func slowByte(row []slowPlace, col int) int {
	clusters, end := row[:len(row)-1], row[len(row)-1]
	for _, c := range clusters {
		if c.col == col {
			return c.byte
		}
	}
	if end.col <= col {
		return end.byte
	}
	byte := 0
	for _, c := range clusters {
		if c.col < col {
			byte = c.byte
		}
	}
	return byte
}

// holdSpots holds Spot of each byte, and of some that aren't there.
func holdSpots(t *testing.T, m *place.Map, rows [][]slowPlace, p api.Para) {
	t.Helper()
	end := slowBytes(rows)
	for at := -2; at <= end+2; at++ {
		for _, back := range []bool{false, true} {
			want, wantError := api.Spot{}, api.ErrRange
			if 0 <= at && at <= end {
				want, wantError = slowSpot(rows, at, back), api.OK
			}
			if s, e := m.Spot(at, back); s != want || e != wantError {
				t.Fatalf("P17.2: Spot of %d, %v: %v, %d, want %v, %d: %v in %v", at, back, s, e, want, wantError, p, rows)
			}
		}
	}
}

// holdBytes holds Byte of each column of each row, and of some that aren't there.
func holdBytes(t *testing.T, m *place.Map, rows [][]slowPlace, p api.Para) {
	t.Helper()
	for i := -1; i <= len(rows); i++ {
		most := 1
		if 0 <= i && i < len(rows) {
			most = rows[i][len(rows[i])-1].col + 3
		}
		for col := -1; col <= most; col++ {
			want, wantError := 0, api.ErrRange
			if 0 <= i && i < len(rows) && col >= 0 {
				want, wantError = slowByte(rows[i], col), api.OK
			}
			if n, e := m.Byte(api.Spot{Row: i, Col: col}); n != want || e != wantError {
				t.Fatalf("P17.2: Byte of row %d, column %d: %d, %d, want %d, %d: %v in %v", i, col, n, e, want, wantError, p, rows)
			}
		}
	}
}

// holdMap holds all that is told of a text's lines.
func holdMap(t *testing.T, p api.Para, l []api.Line, tab int) {
	t.Helper()
	m, rows := place.Make(p, l, tab), slowRows(p, l, tab)
	if m.Rows() != len(rows) {
		t.Fatalf("P17.1: %d rows, want %d: %v", m.Rows(), len(rows), p)
	}
	holdSpots(t, m, rows, p)
	holdBytes(t, m, rows, p)
	holdRise(t, m, p)
	holdBack(t, m, rows, p)
	holdThereAndBack(t, m, rows, p)
}

// hold holds all that is told of a text's lines by a way, in both modes.
func hold(t *testing.T, p api.Para, c api.Config) {
	t.Helper()
	for _, c.Mode = range []api.Mode{api.First, api.Best} {
		l, _ := lines.Break(p, c)
		holdMap(t, p, l, c.Tab)
	}
}

type dice uint64

func (d *dice) roll(n int) int {
	*d = *d*6364136223846793005 + 1442695040888963407
	return int(uint64(*d)>>33) % n
}

// text is up to so many clusters of any bytes; of which letters, and how often a line may end, is rolled, too.
func (d *dice) text(most int) api.Para {
	n, seldom := d.roll(most+1), 1+d.roll(8)
	letters := []string{sorts, "a ", "a  W", "abcd 0", "0_at"}[d.roll(5)]
	p := api.Para{Clusters: make([]api.Cluster, n), Opps: make([]api.Opp, n+1)}
	at := 0
	for i := range p.Clusters {
		p.Clusters[i] = cluster(letters[d.roll(len(letters))], at)
		p.Clusters[i].Len = 1 + d.roll(5)
		at += p.Clusters[i].Len
		if i > 0 && d.roll(seldom) == 0 {
			p.Opps[i] = []api.Opp{api.May, api.Hyphen, api.May, api.Hyphen, api.Must}[d.roll(5)]
		}
	}
	p.Opps[n] = api.Must
	return p
}

func (d *dice) way() api.Config {
	return api.Config{
		Width: 1 + d.roll(20), Tab: 1 + d.roll(9), Hyphen: 100 * d.roll(3), Pair: 1000 * d.roll(3),
		Loose: []float64{math.NaN(), math.Inf(1), 5, 2, 1, 0.5, 0, -1}[d.roll(8)],
	}
}

// ends are some of a text's boundaries, rising, and its end: lines that end there stand one behind the other, whatever way would make them.
func (d *dice) ends(p api.Para) []int {
	var ends []int
	seldom := 1 + d.roll(9)
	for at := 1; at <= len(p.Clusters); at++ {
		if at == len(p.Clusters) || d.roll(seldom) == 0 {
			ends = append(ends, at)
		}
	}
	return ends
}

// TestAgainstSlow: many longer texts, in lines by a way and in any lines.
func TestAgainstSlow(t *testing.T) {
	d := dice(17)
	for range 3000 {
		p, c := d.text(60), d.way()
		right(t, p, c)
		hold(t, p, c)
		holdMap(t, p, at(p, c.Tab, d.ends(p)...), c.Tab)
	}
}

func FuzzMap(f *testing.F) {
	f.Add("aab", uint16(1), uint8(7), false)
	f.Add("W-0|t!=_a-", uint16(1), uint8(63), true)
	f.Add("ab-0|0- -cd!abcdef!a b", uint16(2), uint8(1), true)
	f.Add("", uint16(0), uint8(0), false)
	f.Fuzz(func(t *testing.T, told string, width uint16, tab uint8, loose bool) {
		p := text(told[:min(len(told), 60)])
		if len(p.Clusters) > 0 {
			p.Opps[0] = api.Keep
		}
		// A text that is told may hold the mark of Cut, which stands at no boundary.
		for i, opp := range p.Opps {
			p.Opps[i] = opp % api.Cut
		}
		c := api.Config{Width: 1 + int(width), Tab: 1 + int(tab)%api.MaxTab, Loose: 1}
		if loose {
			c.Loose = math.NaN()
		}
		right(t, p, c)
		hold(t, p, c)
	})
}
