package just_test

import (
	"math"
	"slices"
	"strconv"
	"strings"
	"testing"

	"stanza/api"
	"stanza/items"
	"stanza/just"
	"stanza/lines"
	"stanza/span"
)

// sorts are letters of all clusters there are, three a kind, by their cells: 0, a, W are Plain; _, a blank, = are Spaces; t, u, v are Tabs. Every other letter is taken as a.
const sorts = "0aW_ =tuv"

// marks are what stands, where texts and lines are told, for what may be done and what was done: each at the place of its number. Keep isn't written.
const marks = "\x00|!-/"

func cluster(letter byte, at int) api.Cluster {
	i := strings.IndexByte(sorts, letter)
	if i < 0 {
		i = 1
	}
	return api.Cluster{At: at, Len: 1, Cells: i % 3, Kind: api.Kind(i / 3)}
}

// read makes a text of letters, with a mark behind each one where something may be done; at its end stands Must. It answers the letters alone, too.
func read(told string) (api.Para, string) {
	var letters []byte
	p := api.Para{Opps: []api.Opp{api.Keep}}
	for _, b := range []byte(told) {
		if mark := strings.IndexByte(marks, b); mark > 0 {
			p.Opps[len(letters)] = api.Opp(mark)
			continue
		}
		p.Clusters = append(p.Clusters, cluster(b, len(letters)))
		p.Opps = append(p.Opps, api.Keep)
		letters = append(letters, b)
	}
	p.Opps[len(letters)] = api.Must
	return p, string(letters)
}

func text(told string) api.Para {
	p, _ := read(told)
	return p
}

// way is a way of mode First of some width.
func way(width int) api.Config {
	return api.Config{Width: width, Tab: 4, Loose: math.NaN()}
}

// best is a way in mode Best.
func best(c api.Config) api.Config {
	c.Mode = api.Best
	return c
}

func right(t *testing.T, p api.Para, c api.Config) {
	t.Helper()
	if !items.Check(p) || !span.Check(c) {
		t.Fatalf("no right text, or no right way: %v, %v", p, c)
	}
}

// tell writes numbers with blanks between them.
func tell(l []int) string {
	var told []string
	for _, n := range l {
		told = append(told, strconv.Itoa(n))
	}
	return strings.Join(told, " ")
}

// fills holds Line of each line of a text by a way. A line is told by its letters and a mark for what was done at its end; behind it stand the widths.
func fills(t *testing.T, told string, c api.Config, want ...string) {
	t.Helper()
	p, letters := read(told)
	right(t, p, c)
	l, _ := lines.Break(p, c)
	var got []string
	for _, line := range l {
		got = append(got, letters[line.From:line.To]+marks[line.End:line.End+1], tell(just.Line(p, line, c)))
	}
	if !slices.Equal(got, want) {
		t.Errorf("P18.2: %q by %v: %q, want %q", told, c, got, want)
	}
}

// The clusters that the tests take are all of which the document speaks, and texts are read as they are told.
func TestTexts(t *testing.T) {
	seen := map[[2]int]int{}
	for i := range len(sorts) {
		c := cluster(sorts[i], 0)
		seen[[2]int{int(c.Kind), c.Cells}]++
	}
	if len(seen) != 9 || len(sorts) != 9 {
		t.Errorf("not each sort once: %v", seen)
	}
	p, letters := read("a |b-W!t")
	want := api.Para{
		Clusters: []api.Cluster{{Len: 1, Cells: 1}, {At: 1, Len: 1, Cells: 1, Kind: api.Space}, {At: 2, Len: 1, Cells: 1}, {At: 3, Len: 1, Cells: 2}, {At: 4, Len: 1, Kind: api.Tab}},
		Opps:     []api.Opp{api.Keep, api.Keep, api.May, api.Hyphen, api.Must, api.Must},
	}
	if letters != "a bWt" || !slices.Equal(p.Clusters, want.Clusters) || !slices.Equal(p.Opps, want.Opps) {
		t.Errorf("%q: %v", letters, p)
	}
}
