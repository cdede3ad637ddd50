package lines_test

import (
	"math"
	"slices"
	"testing"

	"stanza/api"
	"stanza/lines"
)

// The tests of this file hold all calls against slow ones of another make: each line is measured by itself, without the layers below; lines as long as may be are found from the last boundary back, those that cost least by going through all rows of ends, one by one.

// slowSize is how many cells clusters have without a hyphen, and how many gaps: those that are empty are taken from the end, one by one.
func slowSize(l []api.Cluster, tab int) (cells, gaps int) {
	for len(l) > 0 {
		c := l[len(l)-1]
		if c.Kind == api.Tab || c.Kind == api.Plain && c.Cells > 0 {
			break
		}
		l = l[:len(l)-1]
	}
	for _, c := range l {
		switch c.Kind {
		case api.Tab:
			cells += tab - cells%tab
		case api.Space:
			gaps++
			fallthrough
		default:
			cells += c.Cells
		}
	}
	return cells, gaps
}

// slowBad is how bad so much room is for so many gaps, by whole numbers; never, if it is too loose.
func slowBad(room, gaps int, most float64) int {
	switch {
	case gaps == 0 && room == 0:
		return 0
	case gaps == 0 && !math.IsNaN(most) && !math.IsInf(most, 1):
		return never
	case gaps > 0 && most < float64(room)/float64(gaps):
		return never
	case room >= 5*gaps:
		return 10000
	}
	return min(100*room*room*room/(gaps*gaps*gaps), 10000)
}

// slowCost is what a line costs; one that ends at a Must is a last one.
func slowCost(p api.Para, from, to int, c api.Config) int {
	if to <= from || p.Opps[to] == api.Keep {
		return never
	}
	cells, gaps := slowSize(p.Clusters[from:to], c.Tab)
	more := 0
	if p.Opps[to] == api.Hyphen {
		cells++
		more += c.Hyphen
		if p.Opps[from] == api.Hyphen {
			more += c.Pair
		}
	}
	bad := 0
	if p.Opps[to] != api.Must {
		bad = slowBad(max(c.Width-cells, 0), gaps, c.Loose)
	}
	if cells > c.Width || bad == never {
		return never
	}
	return 100 + 20*bad + bad*bad + more
}

// slowSum is what lines cost that end at some boundaries.
func slowSum(p api.Para, from int, ends []int, c api.Config) int {
	sum := 0
	for _, to := range ends {
		n := slowCost(p, from, to, c)
		if n == never {
			return never
		}
		sum, from = sum+n, to
	}
	return sum
}

// slowEnds goes through all rows of ends from a boundary to another one, and tells the least of those that cost least; nil, if there are none. Between the two are not many at which a line may end.
func slowEnds(p api.Para, from, to int, c api.Config) []int {
	var between, least []int
	for at := from + 1; at < to; at++ {
		if p.Opps[at] != api.Keep {
			between = append(between, at)
		}
	}
	sum := never
	for row := range 1 << len(between) {
		var ends []int
		for i, at := range between {
			if row&(1<<i) != 0 {
				ends = append(ends, at)
			}
		}
		ends = append(ends, to)
		cost := slowSum(p, from, ends, c)
		if cost == never {
			continue
		}
		if sum == never || cost < sum || cost == sum && slices.Compare(ends, least) < 0 {
			sum, least = cost, ends
		}
	}
	return least
}

// slowLine is the longest line that begins at a boundary.
func slowLine(p api.Para, from, to int, c api.Config) api.Line {
	for at := to; at > from; at-- {
		cells, _ := slowSize(p.Clusters[from:at], c.Tab)
		if p.Opps[at] == api.Hyphen {
			cells++
		}
		if p.Opps[at] != api.Keep && cells <= c.Width {
			return api.Line{From: from, To: at, Cells: cells, End: p.Opps[at]}
		}
	}
	line := api.Line{From: from, To: to, End: api.Cut}
	for line.Cells, _ = slowSize(p.Clusters[from:to], c.Tab); line.To > from+1 && line.Cells > c.Width; {
		line.To--
		line.Cells, _ = slowSize(p.Clusters[from:line.To], c.Tab)
	}
	if slices.Contains([]api.Opp{api.Must, api.May}, p.Opps[line.To]) {
		line.End = p.Opps[line.To]
	}
	return line
}

// slowPart is a part's lines, and whether it is loose.
func slowPart(p api.Para, from, to int, c api.Config) ([]api.Line, bool) {
	var l []api.Line
	var ends []int
	if c.Mode == api.Best {
		ends = slowEnds(p, from, to, c)
	}
	for _, at := range ends {
		line := api.Line{From: from, To: at, End: p.Opps[at]}
		line.Cells, _ = slowSize(p.Clusters[from:at], c.Tab)
		if line.End == api.Hyphen {
			line.Cells++
		}
		l, from = append(l, line), at
	}
	for from < to {
		line := slowLine(p, from, to, c)
		l, from = append(l, line), line.To
	}
	return l, c.Mode == api.Best && len(ends) == 0
}

func slowBreak(p api.Para, c api.Config) ([]api.Line, bool) {
	var l []api.Line
	isLoose := false
	from := 0
	for at := 1; at <= len(p.Clusters); at++ {
		if p.Opps[at] != api.Must {
			continue
		}
		part, told := slowPart(p, from, at, c)
		l, isLoose, from = append(l, part...), isLoose || told, at
	}
	return l, isLoose
}

// holdLines holds lines against what the document says of all lines (P4, P5), whichever they are.
func holdLines(t *testing.T, p api.Para, l []api.Line, c api.Config) {
	t.Helper()
	from := 0
	for _, line := range l {
		if line.From != from || line.To <= from || line.To > len(p.Clusters) {
			t.Fatalf("P4: %v doesn't stand behind %d: %v", line, from, p)
		}
		if line.End == api.Keep || line.End != api.Cut && line.End != p.Opps[line.To] {
			t.Fatalf("P4: %v ends where none may, or not so: %v", line, p)
		}
		if slices.Contains(p.Opps[line.From+1:line.To], api.Must) || p.Opps[line.To] == api.Must && line.End != api.Must {
			t.Fatalf("P4: %v doesn't end by Must: %v", line, p)
		}
		if line.Cells > c.Width {
			if cells, _ := slowSize(p.Clusters[from:from+1], c.Tab); line.To != from+1 || cells != line.Cells {
				t.Fatalf("P5: %v is too wide: %v, %v", line, p, c)
			}
		}
		if line.End == api.Cut && mayEnd(p, from, c) {
			t.Fatalf("P5: %v is cut, though a line may end there: %v, %v", line, p, c)
		}
		from = line.To
	}
	if from != len(p.Clusters) {
		t.Fatalf("P4: lines up to %d: %v", from, p)
	}
}

// mayEnd tells whether a line from a boundary on may end somewhere and fits.
func mayEnd(p api.Para, from int, c api.Config) bool {
	to := must(p, from)
	for at := from + 1; at <= to; at++ {
		if p.Opps[at] == api.Keep {
			continue
		}
		cells, _ := slowSize(p.Clusters[from:at], c.Tab)
		if p.Opps[at] == api.Hyphen {
			cells++
		}
		if cells <= c.Width {
			return true
		}
	}
	return false
}

// holdCost holds Cost of all lines of a text, of each alone, and of all but the first ones.
func holdCost(t *testing.T, p api.Para, l []api.Line, c api.Config) {
	t.Helper()
	sum := 0
	for i := len(l) - 1; i >= 0; i-- {
		want := slowCost(p, l[i].From, l[i].To, c)
		holdSum(t, p, l[i:i+1], c, want)
		if want == never || sum == never {
			sum = never
		} else {
			sum += want
		}
		holdSum(t, p, l[i:], c, sum)
	}
	holdSum(t, p, l, c, sum)
}

// hold holds all that is told of a text by a way, in both modes.
func hold(t *testing.T, p api.Para, c api.Config) {
	t.Helper()
	for _, c.Mode = range []api.Mode{api.First, api.Best} {
		got, told := holdBreak(t, p, c)
		want, isLoose := slowBreak(p, c)
		if told != isLoose || !slices.Equal(got, want) {
			t.Fatalf("P16.1, P5, P6: %v, %v, want %v, %v: %v, %v", got, told, want, isLoose, p, c)
		}
		holdLines(t, p, got, c)
		holdRows(t, p, got)
		holdCost(t, p, got, c)
		// Were the lines of mode First such that each may be, best.Break would have had some.
		if _, ok := lines.Cost(p, got, c); c.Mode == api.Best && ok == told {
			t.Fatalf("P6: loose is %v, but whether all lines may be %v: %v: %v, %v", told, ok, got, p, c)
		}
	}
}

type dice uint64

func (d *dice) roll(n int) int {
	*d = *d*6364136223846793005 + 1442695040888963407
	return int(uint64(*d)>>33) % n
}

// text is up to so many clusters of any bytes, with at most eight boundaries within a part at which a line may end; of which letters, and how often one may end, is rolled, too.
func (d *dice) text(most int) api.Para {
	n, seldom := d.roll(most+1), 1+d.roll(6)
	letters := []string{sorts, "a ", "a  W", "abcd 0"}[d.roll(4)]
	p := api.Para{Clusters: make([]api.Cluster, n), Opps: make([]api.Opp, n+1)}
	ends, at := 0, 0
	for i := range p.Clusters {
		p.Clusters[i] = cluster(letters[d.roll(len(letters))], at)
		p.Clusters[i].Len = 1 + d.roll(5)
		at += p.Clusters[i].Len
		if i == 0 || d.roll(seldom) > 0 {
			continue
		}
		p.Opps[i] = []api.Opp{api.May, api.Hyphen, api.May, api.Hyphen, api.Must}[d.roll(5)]
		if ends++; p.Opps[i] == api.Must || ends > 8 {
			p.Opps[i], ends = api.Must, 0
		}
	}
	p.Opps[n] = api.Must
	return p
}

func (d *dice) way() api.Config {
	prices := []int{0, 0, 1, 100, 300, 12000, 656000, api.MaxCost}
	return api.Config{
		Width: 1 + d.roll(20), Tab: 1 + d.roll(9),
		Hyphen: prices[d.roll(len(prices))], Pair: prices[d.roll(len(prices))],
		Loose: looses[d.roll(len(looses))],
	}
}

// TestAgainstSlow: many longer texts.
func TestAgainstSlow(t *testing.T) {
	d := dice(16)
	for range 6000 {
		p, c := d.text(50), d.way()
		right(t, p, c)
		hold(t, p, c)
		for from := range p.Opps {
			holdPart(t, p, from, c)
		}
	}
}

func FuzzBreak(f *testing.F) {
	f.Add(words, uint16(8), uint8(7), uint32(0), uint32(0), math.Inf(1))
	f.Add("W-0|t!=_a-", uint16(1), uint8(63), uint32(7), uint32(9), 0.5)
	f.Add("ab-0|0- -cd!abcdef!a b", uint16(2), uint8(1), uint32(1<<20), uint32(1<<20), math.NaN())
	f.Add("", uint16(0), uint8(0), uint32(0), uint32(0), -1.0)
	f.Fuzz(func(t *testing.T, told string, width uint16, tab uint8, hyphen, pair uint32, most float64) {
		p := text(told[:min(len(told), 50)])
		if len(p.Clusters) > 0 {
			p.Opps[0] = api.Keep
		}
		// A text that is told may hold the mark of Cut, which stands at no boundary; of many ends there are too many rows.
		ends := 0
		for i, opp := range p.Opps {
			p.Opps[i] = opp % api.Cut
			if p.Opps[i] == api.May || p.Opps[i] == api.Hyphen {
				ends++
			}
		}
		if ends > 11 {
			return
		}
		c := api.Config{Width: 1 + int(width), Tab: 1 + int(tab)%api.MaxTab, Hyphen: int(hyphen) % (api.MaxCost + 1), Pair: int(pair) % (api.MaxCost + 1), Loose: most}
		right(t, p, c)
		hold(t, p, c)
	})
}
