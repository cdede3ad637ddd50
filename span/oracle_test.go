package span_test

import (
	"slices"
	"strings"
	"testing"

	"stanza/api"
	"stanza/items"
	"stanza/span"
)

// The tests of this file hold span against slow answers of another make: a line is drawn, cell by cell, and what was drawn is counted; what is empty at its end is found from the front.

// drawn is clusters as they stand in a terminal: a mark for each of their cells, points up to where a Tab leads.
func drawn(l []api.Cluster, tab int) string {
	var line strings.Builder
	for _, c := range l {
		if c.Kind == api.Tab {
			line.WriteByte('.')
			for line.Len()%tab > 0 {
				line.WriteByte('.')
			}
			continue
		}
		line.WriteString(strings.Repeat("#", c.Cells))
	}
	return line.String()
}

// slowEmpty goes by a list of those that are.
func slowEmpty(c api.Cluster) bool {
	return slices.Contains([]api.Cluster{{Kind: api.Space}, {Kind: api.Space, Cells: 1}, {Kind: api.Space, Cells: 2}, {Kind: api.Plain}}, api.Cluster{Kind: c.Kind, Cells: c.Cells})
}

// slowTrim is the greatest boundary that has something that isn't empty just ahead of it.
func slowTrim(p api.Para, from, to int) int {
	trim := from
	for i := from; i < to; i++ {
		if !slowEmpty(p.Clusters[i]) {
			trim = i + 1
		}
	}
	return trim
}

func slowColumns(p api.Para, from, to, tab int) []int {
	var l []int
	for i := from; i <= to; i++ {
		l = append(l, len(drawn(p.Clusters[from:i], tab)))
	}
	return l
}

// slowGaps counts Spaces that have something behind them that isn't empty.
func slowGaps(p api.Para, from, to int) int {
	n := 0
	for i := from; i < to; i++ {
		rest := slices.Clone(p.Clusters[i+1 : to])
		if p.Clusters[i].Kind == api.Space && len(slices.DeleteFunc(rest, slowEmpty)) > 0 {
			n++
		}
	}
	return n
}

// slowLine is a line as it is drawn, with a hyphen.
func slowLine(p api.Para, from, to int, end api.Opp, tab int) api.Line {
	line := drawn(p.Clusters[from:slowTrim(p, from, to)], tab)
	if end == 3 {
		line += "-"
	}
	return api.Line{From: from, To: to, Cells: len(line), End: end}
}

// holdAgainst holds all calls from a boundary up to another one.
func holdAgainst(t *testing.T, p api.Para, from, to, tab int) {
	t.Helper()
	if got, want := span.Columns(p, from, to, tab), slowColumns(p, from, to, tab); !slices.Equal(got, want) {
		t.Fatalf("P13.2: Columns %v, want %v: %v, %d to %d, tab %d", got, want, p, from, to, tab)
	}
	if got, want := span.Trim(p, from, to), slowTrim(p, from, to); got != want {
		t.Fatalf("P13.2: Trim %d, want %d: %v, %d to %d", got, want, p, from, to)
	}
	if got, want := span.Gaps(p, from, to), slowGaps(p, from, to); got != want {
		t.Fatalf("P13.3: Gaps %d, want %d: %v, %d to %d", got, want, p, from, to)
	}
	for end := range api.Opp(5) {
		want := slowLine(p, from, to, end, tab)
		if got := span.Make(p, from, to, end, tab); got != want {
			t.Fatalf("P13.3: Make %v, want %v: %v, tab %d", got, want, p, tab)
		}
		if got := span.Cells(p, from, to, end, tab); got != want.Cells {
			t.Fatalf("P13.3: Cells %d, want %d: %v, %d to %d, end %d, tab %d", got, want.Cells, p, from, to, end, tab)
		}
	}
	// What the promises say of one call by another one.
	l := span.Columns(p, from, span.Trim(p, from, to), tab)
	if got := span.Cells(p, from, to, api.Must, tab); got != l[len(l)-1] {
		t.Fatalf("P13.3: Cells %d, the last of Columns %v", got, l)
	}
	if got, ok := span.Ends(p, to); got != p.Opps[to] || ok == (p.Opps[to] == 0) {
		t.Fatalf("P13.3: Ends %d, %v, at %d of %v", got, ok, to, p.Opps)
	}
}

// holdEach holds all calls from each boundary up to each one behind it.
func holdEach(t *testing.T, p api.Para, tab int) {
	t.Helper()
	if !items.Check(p) {
		t.Fatalf("no right text: %v", p)
	}
	for from := range p.Opps {
		for to := from; to < len(p.Opps); to++ {
			holdAgainst(t, p, from, to, tab)
		}
	}
}

// TestAllShort: all texts of up to four clusters.
func TestAllShort(t *testing.T) {
	rows := []string{""}
	for at := 0; at < len(rows); at++ {
		for _, tab := range []int{1, 3, 64} {
			holdEach(t, text(rows[at]), tab)
		}
		for i := range len(sorts) {
			if len(rows[at]) < 4 {
				rows = append(rows, rows[at]+sorts[i:i+1])
			}
		}
	}
	if len(rows) != 1+9+81+729+6561 {
		t.Errorf("%d texts", len(rows))
	}
}

type dice uint64

func (d *dice) roll(n int) int {
	*d = *d*6364136223846793005 + 1442695040888963407
	return int(uint64(*d)>>33) % n
}

// text is some clusters, of any sorts and lengths, and anything that may be done at their boundaries.
func (d *dice) text() api.Para {
	p := api.Para{}
	at := 0
	for range d.roll(24) {
		c := cluster(sorts[d.roll(len(sorts))])
		c.At, c.Len = at, 1+d.roll(4)
		at += c.Len
		p.Clusters, p.Opps = append(p.Clusters, c), append(p.Opps, api.Opp(d.roll(4)))
	}
	p.Opps = append(p.Opps, api.Must)
	if at > 0 {
		p.Opps[0] = api.Keep
	}
	return p
}

// TestAgainstSlow: many texts.
func TestAgainstSlow(t *testing.T) {
	d := dice(13)
	for range 600 {
		holdEach(t, d.text(), 1+d.roll(api.MaxTab))
	}
}

func FuzzLines(f *testing.F) {
	f.Add("a\tb ", uint8(4))
	f.Add("WW 0_=tuv", uint8(63))
	f.Add("", uint8(0))
	f.Fuzz(func(t *testing.T, letters string, tab uint8) {
		row := []byte(letters[:min(len(letters), 40)])
		for i, b := range row {
			row[i] = sorts[int(b)%len(sorts)]
		}
		p := text(string(row))
		for i := 1; i < len(row); i++ {
			p.Opps[i] = api.Opp(letters[i] >> 6)
		}
		holdEach(t, p, 1+int(tab)%api.MaxTab)
	})
}
