package lines_test

import (
	"math"
	"slices"
	"strconv"
	"strings"
	"testing"

	"stanza/api"
	"stanza/items"
	"stanza/lines"
	"stanza/span"
)

// sorts are letters of all clusters there are, three a kind, by their cells: 0, a, W are Plain; _, a blank, = are Spaces; t, u, v are Tabs. Every other letter is taken as a.
const sorts = "0aW_ =tuv"

// sizes are how many bytes the cluster of each sort has.
const sizes = "\x02\x01\x03\x01\x01\x04\x01\x02\x01"

// marks are what stands, where texts and lines are told, for what may be done and what was done: each at the place of its number. Keep isn't written.
const marks = "\x00|!-/"

// never is what the tests have for the cost of a line that may not be.
const never = -1

// dear is what a line costs that is as bad as can be.
const dear = 10010 * 10010

var (
	noNumber = math.NaN() // a Loose by which every line may be that fits
	infinite = math.Inf(1)
	below    = math.Inf(-1)
	minus0   = math.Copysign(0, -1)
)

func cluster(letter byte, at int) api.Cluster {
	i := strings.IndexByte(sorts, letter)
	if i < 0 {
		i = 1
	}
	return api.Cluster{At: at, Len: int(sizes[i]), Cells: i % 3, Kind: api.Kind(i / 3)}
}

// read makes a text of letters, with a mark behind each one where something may be done; at its end stands Must. It answers the letters alone, too.
func read(told string) (api.Para, string) {
	var letters []byte
	p := api.Para{Opps: []api.Opp{api.Keep}}
	at := 0
	for _, b := range []byte(told) {
		if mark := strings.IndexByte(marks, b); mark > 0 {
			p.Opps[len(letters)] = api.Opp(mark)
			continue
		}
		c := cluster(b, at)
		at += c.Len
		p.Clusters = append(p.Clusters, c)
		p.Opps = append(p.Opps, api.Keep)
		letters = append(letters, b)
	}
	p.Opps[len(letters)] = api.Must
	return p, string(letters)
}

func text(told string) api.Para {
	p, _ := read(told)
	return p
}

// must is the first boundary of Must behind one; of one that has none behind it, itself.
func must(p api.Para, from int) int {
	for to := from + 1; to < len(p.Opps); to++ {
		if p.Opps[to] == api.Must {
			return to
		}
	}
	return from
}

// way is a way of mode Best of some width, by which every line may be that fits, and hyphens cost nothing.
func way(width int) api.Config {
	return api.Config{Width: width, Tab: 8, Mode: api.Best, Loose: noNumber}
}

// loose is a way of mode Best of some width, by which lines may be no looser than that.
func loose(width int, most float64) api.Config {
	c := way(width)
	c.Loose = most
	return c
}

// hyphens is a way of mode Best of some width, by which hyphens cost that much, and pairs.
func hyphens(width, hyphen, pair int) api.Config {
	c := way(width)
	c.Hyphen, c.Pair = hyphen, pair
	return c
}

// longest is a way in mode First.
func longest(c api.Config) api.Config {
	c.Mode = api.First
	return c
}

func right(t *testing.T, p api.Para, c api.Config) {
	t.Helper()
	if !items.Check(p) || !span.Check(c) {
		t.Fatalf("no right text, or no right way: %v, %v", p, c)
	}
}

// tell tells lines: their letters, a mark for what was done at the end, their cells.
func tell(letters string, l []api.Line) []string {
	var told []string
	for _, line := range l {
		told = append(told, letters[line.From:line.To]+marks[line.End:line.End+1]+strconv.Itoa(line.Cells))
	}
	return told
}

// parts holds Part from a boundary up to the first one of Must behind it: lines that are told, and whether it tells true.
func parts(t *testing.T, told string, from int, c api.Config, wantLoose bool, want ...string) {
	t.Helper()
	p, letters := read(told)
	right(t, p, c)
	got, isLoose := lines.Part(p, from, must(p, from), c)
	if l := tell(letters, got); isLoose != wantLoose || !slices.Equal(l, want) {
		t.Errorf("P16.1: Part of %q from %d by %v: %q, %v, want %q, %v", told, from, c, l, isLoose, want, wantLoose)
	}
}

// breaks holds Break of a text: lines that are told, and whether it tells true.
func breaks(t *testing.T, told string, c api.Config, wantLoose bool, want ...string) {
	t.Helper()
	p, letters := read(told)
	right(t, p, c)
	got, isLoose := lines.Break(p, c)
	if l := tell(letters, got); isLoose != wantLoose || !slices.Equal(l, want) {
		t.Errorf("P16.1: Break of %q by %v: %q, %v, want %q, %v", told, c, l, isLoose, want, wantLoose)
	}
}

// at makes lines of a text, from 0 on, that end at some boundaries, as what may be done there says.
func at(p api.Para, tab int, ends ...int) []api.Line {
	var l []api.Line
	from := 0
	for _, to := range ends {
		l = append(l, span.Make(p, from, to, p.Opps[to], tab))
		from = to
	}
	return l
}

// costs holds Cost of lines of a text from its beginning on, that end at some boundaries.
func costs(t *testing.T, told string, c api.Config, want int, ends ...int) {
	t.Helper()
	p := text(told)
	right(t, p, c)
	holdSum(t, p, at(p, c.Tab, ends...), c, want)
}

// holdSum holds Cost of lines.
func holdSum(t *testing.T, p api.Para, l []api.Line, c api.Config, want int) {
	t.Helper()
	if n, ok := lines.Cost(p, l, c); ok != (want != never) || n != max(want, 0) {
		t.Errorf("P16.2: Cost of %v by %v: %d, %v, want %d: %v", l, c, n, ok, want, p)
	}
}

// The clusters that the tests take are all of which the document speaks, of one byte and of several, and texts are read as they are told.
func TestTexts(t *testing.T) {
	seen := map[[2]int]int{}
	for i := range len(sorts) {
		c := cluster(sorts[i], 0)
		seen[[2]int{int(c.Kind), c.Cells}]++
	}
	if len(seen) != 9 || len(sorts) != 9 || len(sizes) != 9 {
		t.Errorf("not each sort once: %v", seen)
	}
	p, letters := read("a |b-W!t")
	want := api.Para{
		Clusters: []api.Cluster{{Len: 1, Cells: 1}, {At: 1, Len: 1, Cells: 1, Kind: api.Space}, {At: 2, Len: 1, Cells: 1}, {At: 3, Len: 3, Cells: 2}, {At: 6, Len: 1, Kind: api.Tab}},
		Opps:     []api.Opp{api.Keep, api.Keep, api.May, api.Hyphen, api.Must, api.Must},
	}
	if letters != "a bWt" || !slices.Equal(p.Clusters, want.Clusters) || !slices.Equal(p.Opps, want.Opps) {
		t.Errorf("%q: %v", letters, p)
	}
}
