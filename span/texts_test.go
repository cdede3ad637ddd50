package span_test

import (
	"slices"
	"testing"

	"stanza/api"
	"stanza/items"
	"stanza/span"
)

// cluster is one by a letter: a and the like have one cell, W two, 0 none; a blank is a Space of a cell, _ one of none, = one of two; t is a Tab of none, u of one, v of two.
func cluster(letter byte) api.Cluster {
	c := api.Cluster{Len: 1, Cells: 1}
	switch letter {
	case 'W':
		c.Cells = 2
	case '0':
		c.Cells = 0
	case ' ', '_', '=':
		c.Kind = api.Space
		c.Cells = map[byte]int{' ': 1, '_': 0, '=': 2}[letter]
	case 't', 'u', 'v':
		c.Kind = api.Tab
		c.Cells = int(letter - 't')
	}
	return c
}

// sorts are letters of all clusters there are.
const sorts = "aW0 _=tuv"

// text is clusters by letters, with Keep at all boundaries but the last.
func text(letters string) api.Para {
	p := api.Para{Opps: make([]api.Opp, len(letters)+1)}
	for i := range len(letters) {
		c := cluster(letters[i])
		c.At = i
		p.Clusters = append(p.Clusters, c)
	}
	p.Opps[len(letters)] = api.Must
	return p
}

// with is a text with other things that may be done at its boundaries.
func with(p api.Para, opps ...api.Opp) api.Para {
	p.Opps = opps
	return p
}

// none is a text without clusters, as items makes it.
func none() api.Para { return items.Make(nil, nil, nil, nil, nil) }

// opps are all that may be done, at boundaries and at lines' ends, and numbers that say nothing.
func opps() []api.Opp {
	return []api.Opp{api.Keep, api.May, api.Must, api.Hyphen, api.Cut, 5, 7, 19, 127, 131, 255}
}

// The clusters that the tests take are all of which the document speaks, and their texts are right ones.
func TestTexts(t *testing.T) {
	seen := map[[2]int]int{}
	for i := range len(sorts) {
		c := cluster(sorts[i])
		seen[[2]int{int(c.Kind), c.Cells}]++
	}
	if len(seen) != 9 || len(sorts) != 9 {
		t.Errorf("not each sort once: %v", seen)
	}
	for _, p := range []api.Para{text(""), text("a"), text(sorts), none(), with(text("a bc"), 0, 0, 1, 3, 2)} {
		if !items.Check(p) {
			t.Errorf("no right text: %v", p)
		}
	}
}

// The chapter's examples: a, Tab, b, Space with tab 4.
func TestExamples(t *testing.T) {
	for _, tab := range []string{"t", "u", "v"} {
		p := text("a" + tab + "b ")
		if l := span.Columns(p, 0, 4, 4); !slices.Equal(l, []int{0, 1, 4, 5, 6}) {
			t.Errorf("P13.2: Columns %v", l)
		}
		if n := span.Trim(p, 0, 4); n != 3 {
			t.Errorf("P13.2: Trim %d", n)
		}
		if n := span.Cells(p, 0, 4, api.May, 4); n != 5 {
			t.Errorf("P13.3: Cells %d", n)
		}
		if n := span.Cells(p, 0, 4, api.Hyphen, 4); n != 6 {
			t.Errorf("P13.3: Cells with a hyphen %d", n)
		}
		if n := span.Gaps(p, 0, 4); n != 0 {
			t.Errorf("P13.3: Gaps %d", n)
		}
	}
}
