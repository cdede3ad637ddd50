package first_test

import (
	"slices"
	"testing"

	"stanza/api"
)

// The tests of this file hold Break against slow lines of another make: for each line all boundaries are tried, from the last one back, and each is measured anew, without package span.

// slowCells is how wide clusters are without a hyphen: those that are empty are taken from the end, one by one.
func slowCells(l []api.Cluster, tab int) int {
	for len(l) > 0 {
		c := l[len(l)-1]
		if c.Kind == api.Tab || c.Kind == api.Plain && c.Cells > 0 {
			break
		}
		l = l[:len(l)-1]
	}
	col := 0
	for _, c := range l {
		if c.Kind == api.Tab {
			col += tab - col%tab
		} else {
			col += c.Cells
		}
	}
	return col
}

// slowLine is the line that begins at a boundary.
func slowLine(p api.Para, from, to int, c api.Config) api.Line {
	for at := to; at > from; at-- {
		cells := slowCells(p.Clusters[from:at], c.Tab)
		if p.Opps[at] == api.Hyphen {
			cells++
		}
		if p.Opps[at] != api.Keep && cells <= c.Width {
			return api.Line{From: from, To: at, Cells: cells, End: p.Opps[at]}
		}
	}
	line := api.Line{From: from, To: to, End: api.Cut}
	for line.To > from+1 && slowCells(p.Clusters[from:line.To], c.Tab) > c.Width {
		line.To--
	}
	line.Cells = slowCells(p.Clusters[from:line.To], c.Tab)
	if slices.Contains([]api.Opp{api.Must, api.May}, p.Opps[line.To]) {
		line.End = p.Opps[line.To]
	}
	return line
}

func slowBreak(p api.Para, from, to int, c api.Config) []api.Line {
	var l []api.Line
	for from < to {
		line := slowLine(p, from, to, c)
		l, from = append(l, line), line.To
	}
	return l
}

type dice uint64

func (d *dice) roll(n int) int {
	*d = *d*6364136223846793005 + 1442695040888963407
	return int(uint64(*d)>>33) % n
}

// text is up to so many clusters; how often something may be done between two of them is rolled, too.
func (d *dice) text(most int) api.Para {
	n, seldom := 1+d.roll(most), 1+d.roll(8)
	p := api.Para{Clusters: make([]api.Cluster, n), Opps: make([]api.Opp, n+1)}
	for i := range p.Clusters {
		p.Clusters[i] = cluster(sorts[d.roll(len(sorts))], i)
		if i > 0 && d.roll(seldom) == 0 {
			p.Opps[i] = api.Opp(d.roll(4))
		}
	}
	p.Opps[n] = api.Must
	return p
}

// TestAgainstSlow: many longer texts, from each boundary on.
func TestAgainstSlow(t *testing.T) {
	d := dice(14)
	for range 2000 {
		p := d.text(40)
		c := api.Config{Width: 1 + d.roll(30), Tab: 1 + d.roll(10)}
		if d.roll(4) == 0 {
			c = api.Config{Width: 1 + d.roll(300), Tab: 1 + d.roll(api.MaxTab)}
		}
		for from := range p.Opps {
			holdFrom(t, p, from, c)
		}
	}
}

func FuzzBreak(f *testing.F) {
	f.Add("aa |bb", uint16(3), uint8(8))
	f.Add("W-0|t!=_a-", uint16(1), uint8(63))
	f.Add("ab-0|0- -cd", uint16(2), uint8(1))
	f.Add("", uint16(0), uint8(0))
	f.Fuzz(func(t *testing.T, told string, width uint16, tab uint8) {
		p := text(told[:min(len(told), 60)])
		if len(p.Clusters) > 0 {
			p.Opps[0] = api.Keep
		}
		// A text that is told may hold the mark of Cut, which stands at no boundary.
		for i, opp := range p.Opps {
			p.Opps[i] = opp % api.Cut
		}
		for from := range p.Opps {
			holdFrom(t, p, from, api.Config{Width: 1 + int(width), Tab: 1 + int(tab)%api.MaxTab})
		}
	})
}
