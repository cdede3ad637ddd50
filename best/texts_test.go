package best_test

import (
	"math"
	"slices"
	"strconv"
	"strings"
	"testing"

	"stanza/api"
	"stanza/best"
	"stanza/items"
	"stanza/span"
)

// sorts are letters of all clusters there are, three a kind, by their cells: 0, a, W are Plain; _, a blank, = are Spaces; t, u, v are Tabs. Every other letter is taken as a.
const sorts = "0aW_ =tuv"

// marks are what stands, where texts and lines are told, for what may be done and what was done: each at the place of its number. Keep isn't written.
const marks = "\x00|!-/"

// never is what the tests have for the cost of a line that may not be.
const never = -1

// dear is what a line costs that is as bad as can be.
const dear = 10010 * 10010

// noNumber is a Loose by which every line may be that fits.
var noNumber = math.NaN()

func cluster(letter byte, at int) api.Cluster {
	i := strings.IndexByte(sorts, letter)
	if i < 0 {
		i = 1
	}
	return api.Cluster{At: at, Len: 1, Cells: i % 3, Kind: api.Kind(i / 3)}
}

// read makes a text of letters, with a mark behind each one where something may be done; at its end stands Must. It answers the letters alone, too.
func read(told string) (api.Para, string) {
	var letters []byte
	p := api.Para{Opps: []api.Opp{api.Keep}}
	for _, b := range []byte(told) {
		if mark := strings.IndexByte(marks, b); mark > 0 {
			p.Opps[len(letters)] = api.Opp(mark)
			continue
		}
		p.Clusters = append(p.Clusters, cluster(b, len(letters)))
		p.Opps = append(p.Opps, api.Keep)
		letters = append(letters, b)
	}
	p.Opps[len(letters)] = api.Must
	return p, string(letters)
}

func text(told string) api.Para {
	p, _ := read(told)
	return p
}

// must is the first boundary of Must behind one; of one that has none behind it, itself.
func must(p api.Para, from int) int {
	for to := from + 1; to < len(p.Opps); to++ {
		if p.Opps[to] == api.Must {
			return to
		}
	}
	return from
}

// way is a way of some width, by which every line may be that fits, and hyphens cost nothing.
func way(width int) api.Config {
	return api.Config{Width: width, Tab: 8, Mode: api.Best, Loose: noNumber}
}

// loose is a way of some width, by which lines may be no looser than that.
func loose(width int, most float64) api.Config {
	c := way(width)
	c.Loose = most
	return c
}

// hyphens is a way of some width, by which hyphens cost that much, and pairs.
func hyphens(width, hyphen, pair int) api.Config {
	c := way(width)
	c.Hyphen, c.Pair = hyphen, pair
	return c
}

func right(t *testing.T, p api.Para, c api.Config) {
	t.Helper()
	if !items.Check(p) || !span.Check(c) {
		t.Fatalf("no right text, or no right way: %v, %v", p, c)
	}
}

// costs holds Cost of a line of a text that is told.
func costs(t *testing.T, told string, from, to int, last bool, c api.Config, want int) {
	t.Helper()
	p := text(told)
	right(t, p, c)
	n, ok := best.Cost(p, from, to, last, c)
	if ok != (want != never) || n != max(want, 0) {
		t.Errorf("P15.1: %q from %d to %d, last %v, by %v: %d, %v, want %d", told, from, to, last, c, n, ok, want)
	}
}

// tell tells lines: their letters, a mark for what was done at the end, their cells.
func tell(letters string, lines []api.Line) []string {
	var l []string
	for _, line := range lines {
		l = append(l, letters[line.From:line.To]+marks[line.End:line.End+1]+strconv.Itoa(line.Cells))
	}
	return l
}

// breaks holds Break of a text's first part against lines that are told; of no lines: that there are none.
func breaks(t *testing.T, told string, c api.Config, want ...string) {
	t.Helper()
	breaksFrom(t, told, 0, c, want...)
}

// breaksFrom holds Break from a boundary, behind which there is something, up to the first one of Must behind it.
func breaksFrom(t *testing.T, told string, from int, c api.Config, want ...string) {
	t.Helper()
	p, letters := read(told)
	right(t, p, c)
	to := must(p, from)
	lines, ok := best.Break(p, from, to, c)
	holds(t, p, from, to, c, lines, ok)
	if got := tell(letters, lines); ok != (len(want) > 0) || !slices.Equal(got, want) {
		t.Errorf("P15.2: %q from %d by %v: %q, %v, want %q", told, from, c, got, ok, want)
	}
}

// The clusters that the tests take are all of which the document speaks, and texts are read as they are told.
func TestTexts(t *testing.T) {
	seen := map[[2]int]int{}
	for i := range len(sorts) {
		c := cluster(sorts[i], 0)
		seen[[2]int{int(c.Kind), c.Cells}]++
	}
	if len(seen) != 9 || len(sorts) != 9 {
		t.Errorf("not each sort once: %v", seen)
	}
	p, letters := read("a |b-W!t")
	want := api.Para{
		Clusters: []api.Cluster{{Len: 1, Cells: 1}, {At: 1, Len: 1, Cells: 1, Kind: api.Space}, {At: 2, Len: 1, Cells: 1}, {At: 3, Len: 1, Cells: 2}, {At: 4, Len: 1, Kind: api.Tab}},
		Opps:     []api.Opp{api.Keep, api.Keep, api.May, api.Hyphen, api.Must, api.Must},
	}
	if letters != "a bWt" || !slices.Equal(p.Clusters, want.Clusters) || !slices.Equal(p.Opps, want.Opps) {
		t.Errorf("%q: %v", letters, p)
	}
}
