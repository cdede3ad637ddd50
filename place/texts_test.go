package place_test

import (
	"math"
	"slices"
	"strconv"
	"strings"
	"testing"

	"stanza/api"
	"stanza/items"
	"stanza/lines"
	"stanza/place"
	"stanza/span"
)

// sorts are letters of all clusters there are, three a kind, by their cells: 0, a, W are Plain; _, a blank, = are Spaces; t, u, v are Tabs. Every other letter is taken as a.
const sorts = "0aW_ =tuv"

// sizes are how many bytes the cluster of each sort has.
const sizes = "\x02\x01\x03\x01\x01\x04\x01\x02\x01"

// marks are what stands, where texts and lines are told, for what may be done and what was done: each at the place of its number. Keep isn't written.
const marks = "\x00|!-/"

func cluster(letter byte, at int) api.Cluster {
	i := strings.IndexByte(sorts, letter)
	if i < 0 {
		i = 1
	}
	return api.Cluster{At: at, Len: int(sizes[i]), Cells: i % 3, Kind: api.Kind(i / 3)}
}

// read makes a text of letters, with a mark behind each one where something may be done; at its end stands Must. It answers the letters alone, too.
func read(told string) (api.Para, string) {
	var letters []byte
	p := api.Para{Opps: []api.Opp{api.Keep}}
	at := 0
	for _, b := range []byte(told) {
		if mark := strings.IndexByte(marks, b); mark > 0 {
			p.Opps[len(letters)] = api.Opp(mark)
			continue
		}
		c := cluster(b, at)
		at += c.Len
		p.Clusters = append(p.Clusters, c)
		p.Opps = append(p.Opps, api.Keep)
		letters = append(letters, b)
	}
	p.Opps[len(letters)] = api.Must
	return p, string(letters)
}

func text(told string) api.Para {
	p, _ := read(told)
	return p
}

// way is a way of mode First of some width.
func way(width int) api.Config {
	return api.Config{Width: width, Tab: 4, Loose: math.NaN()}
}

// best is a way in mode Best.
func best(c api.Config) api.Config {
	c.Mode = api.Best
	return c
}

func right(t *testing.T, p api.Para, c api.Config) {
	t.Helper()
	if !items.Check(p) || !span.Check(c) {
		t.Fatalf("no right text, or no right way: %v, %v", p, c)
	}
}

// at makes lines of a text, from 0 on, that end at some boundaries.
func at(p api.Para, tab int, ends ...int) []api.Line {
	var l []api.Line
	from := 0
	for _, to := range ends {
		l = append(l, span.Make(p, from, to, p.Opps[to], tab))
		from = to
	}
	return l
}

// made is the map of a text that is broken by a way into rows that are told: their letters, and a mark for what was done at the end.
func made(t *testing.T, told string, c api.Config, rows ...string) *place.Map {
	t.Helper()
	p, letters := read(told)
	right(t, p, c)
	l, _ := lines.Break(p, c)
	var got []string
	for _, line := range l {
		got = append(got, letters[line.From:line.To]+marks[line.End:line.End+1])
	}
	if !slices.Equal(got, rows) {
		t.Fatalf("%q by %v: lines %q, want %q", told, c, got, rows)
	}
	m := place.Make(p, l, c.Tab)
	if m.Rows() != max(len(rows), 1) {
		t.Errorf("P17.1: Rows of %q by %v: %d, want %d", told, c, m.Rows(), max(len(rows), 1))
	}
	return m
}

func tellSpot(s api.Spot) string { return strconv.Itoa(s.Row) + "." + strconv.Itoa(s.Col) }

// spots holds Spot of each byte, from 0 to the text's end, and of those that aren't there. A spot is told as its row and its column; behind it stands, if that is another one, the spot with back.
func spots(t *testing.T, m *place.Map, want string) {
	t.Helper()
	fields := strings.Fields(want)
	var got []string
	for at := range fields {
		s, e := m.Spot(at, false)
		back, f := m.Spot(at, true)
		if e != api.OK || f != api.OK {
			t.Fatalf("P17.2: Spot of %d: errors %d and, with back, %d", at, e, f)
		}
		told := tellSpot(s)
		if back != s {
			told += "<" + tellSpot(back)
		}
		got = append(got, told)
	}
	if !slices.Equal(got, fields) {
		t.Errorf("P17.2: spots %q, want %q", got, fields)
	}
	for _, at := range []int{math.MinInt, -2, -1, len(fields), len(fields) + 1, math.MaxInt} {
		noSpot(t, m, at, api.ErrRange)
	}
}

// noSpot holds an error of Spot, with zeros beside it (R3).
func noSpot(t *testing.T, m *place.Map, at int, want api.Errno) {
	t.Helper()
	for _, back := range []bool{false, true} {
		if s, e := m.Spot(at, back); e != want || s != (api.Spot{}) {
			t.Errorf("P17.2, R3: Spot of %d, %v: %v, %d, want error %d", at, back, s, e, want)
		}
	}
}

// bytes holds Byte of a row's columns, from 0 on, and of all behind them; that of the last one that is told is the row's end.
func bytes(t *testing.T, m *place.Map, row int, want ...int) {
	t.Helper()
	end := want[len(want)-1]
	for col, at := range want {
		isByte(t, m, row, col, at)
	}
	for _, col := range []int{len(want), len(want) + 1, api.MaxWidth, math.MaxInt} {
		isByte(t, m, row, col, end)
	}
	for _, col := range []int{-1, -2, math.MinInt} {
		noByte(t, m, row, col, api.ErrRange)
	}
}

func isByte(t *testing.T, m *place.Map, row, col, want int) {
	t.Helper()
	if n, e := m.Byte(api.Spot{Row: row, Col: col}); e != api.OK || n != want {
		t.Errorf("P17.2: Byte of row %d, column %d: %d, %d, want %d", row, col, n, e, want)
	}
}

// noByte holds an error of Byte, with zero beside it (R3).
func noByte(t *testing.T, m *place.Map, row, col int, want api.Errno) {
	t.Helper()
	if n, e := m.Byte(api.Spot{Row: row, Col: col}); e != want || n != 0 {
		t.Errorf("P17.2, R3: Byte of row %d, column %d: %d, %d, want error %d", row, col, n, e, want)
	}
}

// The clusters that the tests take are all of which the document speaks, of one byte and of several, and texts are read as they are told.
func TestTexts(t *testing.T) {
	seen := map[[2]int]int{}
	for i := range len(sorts) {
		c := cluster(sorts[i], 0)
		seen[[2]int{int(c.Kind), c.Cells}]++
	}
	if len(seen) != 9 || len(sorts) != 9 || len(sizes) != 9 {
		t.Errorf("not each sort once: %v", seen)
	}
	p, letters := read("a |b-W!t")
	want := api.Para{
		Clusters: []api.Cluster{{Len: 1, Cells: 1}, {At: 1, Len: 1, Cells: 1, Kind: api.Space}, {At: 2, Len: 1, Cells: 1}, {At: 3, Len: 3, Cells: 2}, {At: 6, Len: 1, Kind: api.Tab}},
		Opps:     []api.Opp{api.Keep, api.Keep, api.May, api.Hyphen, api.Must, api.Must},
	}
	if letters != "a bWt" || !slices.Equal(p.Clusters, want.Clusters) || !slices.Equal(p.Opps, want.Opps) {
		t.Errorf("%q: %v", letters, p)
	}
}
