package first_test

import (
	"slices"
	"strconv"
	"strings"
	"testing"

	"stanza/api"
	"stanza/first"
	"stanza/items"
	"stanza/span"
)

// sorts are letters of all clusters there are, three a kind, by their cells: 0, a, W are Plain; _, a blank, = are Spaces; t, u, v are Tabs. Every other letter is taken as a.
const sorts = "0aW_ =tuv"

// marks are what stands, where texts and lines are told, for what may be done and what was done: each at the place of its number. Keep isn't written.
const marks = "\x00|!-/"

func cluster(letter byte, at int) api.Cluster {
	i := strings.IndexByte(sorts, letter)
	if i < 0 {
		i = 1
	}
	return api.Cluster{At: at, Len: 1, Cells: i % 3, Kind: api.Kind(i / 3)}
}

// read makes a text of letters, with a mark behind each one where something may be done; at its end stands Must. It answers the letters alone, too.
func read(told string) (api.Para, string) {
	var letters []byte
	p := api.Para{Opps: []api.Opp{api.Keep}}
	for _, b := range []byte(told) {
		if mark := strings.IndexByte(marks, b); mark > 0 {
			p.Opps[len(letters)] = api.Opp(mark)
			continue
		}
		p.Clusters = append(p.Clusters, cluster(b, len(letters)))
		p.Opps = append(p.Opps, api.Keep)
		letters = append(letters, b)
	}
	p.Opps[len(letters)] = api.Must
	return p, string(letters)
}

func text(told string) api.Para {
	p, _ := read(told)
	return p
}

// must is the first boundary of Must behind one; of one that has none behind it, itself.
func must(p api.Para, from int) int {
	for to := from + 1; to < len(p.Opps); to++ {
		if p.Opps[to] == api.Must {
			return to
		}
	}
	return from
}

// tell tells lines: their letters, a mark for what was done at the end, their cells.
func tell(letters string, lines []api.Line) []string {
	var l []string
	for _, line := range lines {
		l = append(l, letters[line.From:line.To]+marks[line.End:line.End+1]+strconv.Itoa(line.Cells))
	}
	return l
}

// breaks holds Break of a text's first part against lines that are told.
func breaks(t *testing.T, told string, width, tab int, want ...string) {
	t.Helper()
	breaksFrom(t, told, 0, width, tab, want...)
}

// breaksFrom holds Break from a boundary up to the first one of Must behind it.
func breaksFrom(t *testing.T, told string, from, width, tab int, want ...string) {
	t.Helper()
	p, letters := read(told)
	c := api.Config{Width: width, Tab: tab}
	if !items.Check(p) || !span.Check(c) {
		t.Fatalf("no right text, or no right way: %q, %v", told, c)
	}
	to := must(p, from)
	lines := first.Break(p, from, to, c)
	holds(t, p, from, to, c, lines)
	if got := tell(letters, lines); !slices.Equal(got, want) {
		t.Errorf("P14.1: %q from %d, width %d, tab %d: %q, want %q", told, from, width, tab, got, want)
	}
}

// The clusters that the tests take are all of which the document speaks, and texts are read as they are told.
func TestTexts(t *testing.T) {
	seen := map[[2]int]int{}
	for i := range len(sorts) {
		c := cluster(sorts[i], 0)
		seen[[2]int{int(c.Kind), c.Cells}]++
	}
	if len(seen) != 9 || len(sorts) != 9 {
		t.Errorf("not each sort once: %v", seen)
	}
	p, letters := read("a |b-W!t")
	want := api.Para{
		Clusters: []api.Cluster{{Len: 1, Cells: 1}, {At: 1, Len: 1, Cells: 1, Kind: api.Space}, {At: 2, Len: 1, Cells: 1}, {At: 3, Len: 1, Cells: 2}, {At: 4, Len: 1, Kind: api.Tab}},
		Opps:     []api.Opp{api.Keep, api.Keep, api.May, api.Hyphen, api.Must, api.Must},
	}
	if letters != "a bWt" || !slices.Equal(p.Clusters, want.Clusters) || !slices.Equal(p.Opps, want.Opps) {
		t.Errorf("%q: %v", letters, p)
	}
}
