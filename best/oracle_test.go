package best_test

import (
	"math"
	"slices"
	"testing"

	"stanza/api"
	"stanza/best"
)

// The tests of this file hold Cost and Break against slow ones of another make: each line is measured by itself, without packages span and ratio, and all rows of ends are gone through, one by one.

// slowSize is how many cells clusters have without a hyphen, and how many gaps: those that are empty are taken from the end, one by one.
func slowSize(l []api.Cluster, tab int) (cells, gaps int) {
	for len(l) > 0 {
		c := l[len(l)-1]
		if c.Kind == api.Tab || c.Kind == api.Plain && c.Cells > 0 {
			break
		}
		l = l[:len(l)-1]
	}
	for _, c := range l {
		switch c.Kind {
		case api.Tab:
			cells += tab - cells%tab
		case api.Space:
			gaps++
			fallthrough
		default:
			cells += c.Cells
		}
	}
	return cells, gaps
}

// slowBad is how bad so much room is for so many gaps, by whole numbers; never, if it is too loose. A fraction whose third power is nearer to a whole number than float64 tells isn't to be had of texts.
func slowBad(room, gaps int, most float64) int {
	switch {
	case gaps == 0 && room == 0:
		return 0
	case gaps == 0 && !math.IsNaN(most) && !math.IsInf(most, 1):
		return never
	case gaps > 0 && most < float64(room)/float64(gaps):
		return never
	case room >= 5*gaps:
		return 10000
	}
	return min(100*room*room*room/(gaps*gaps*gaps), 10000)
}

func slowCost(p api.Para, from, to int, last bool, c api.Config) int {
	if to <= from || p.Opps[to] == api.Keep {
		return never
	}
	cells, gaps := slowSize(p.Clusters[from:to], c.Tab)
	more := 0
	if p.Opps[to] == api.Hyphen {
		cells++
		more += c.Hyphen
		if p.Opps[from] == api.Hyphen {
			more += c.Pair
		}
	}
	bad := 0
	if !last {
		bad = slowBad(max(c.Width-cells, 0), gaps, c.Loose)
	}
	if cells > c.Width || bad == never {
		return never
	}
	return 100 + 20*bad + bad*bad + more
}

// slowEnds goes through all rows of ends from a boundary to another one, and tells the least of those that cost least; nil, if there are none. Between the two are not many at which a line may end.
func slowEnds(p api.Para, from, to int, c api.Config) []int {
	var between []int
	for at := from + 1; at < to; at++ {
		if p.Opps[at] != api.Keep {
			between = append(between, at)
		}
	}
	price := slowPrices(p, append(append([]int{from}, between...), to), c)
	var least, ends []int
	sum := never
	for row := range 1 << len(between) {
		ends = ends[:0]
		cost, at := 0, 0
		for i := range len(between) + 1 {
			if i < len(between) && row&(1<<i) == 0 {
				continue
			}
			if price[at][i+1] == never {
				cost = never
				break
			}
			cost += price[at][i+1]
			at = i + 1
			if i < len(between) {
				ends = append(ends, between[i])
			}
		}
		if cost == never {
			continue
		}
		ends = append(ends, to)
		if sum == never || cost < sum || cost == sum && slices.Compare(ends, least) < 0 {
			sum, least = cost, slices.Clone(ends)
		}
	}
	return least
}

// slowPrices is what each line between two of some boundaries costs, those that end at the last of them as last ones.
func slowPrices(p api.Para, bounds []int, c api.Config) [][]int {
	price := make([][]int, len(bounds))
	for i, from := range bounds {
		price[i] = make([]int, len(bounds))
		for j := i + 1; j < len(bounds); j++ {
			price[i][j] = slowCost(p, from, bounds[j], j == len(bounds)-1, c)
		}
	}
	return price
}

// holds holds lines against what the document says of all lines of mode Best (P4, P5, P6), whichever they are.
func holds(t *testing.T, p api.Para, from, to int, c api.Config, lines []api.Line, ok bool) {
	t.Helper()
	if !ok {
		if len(lines) > 0 {
			t.Fatalf("R3: beside false %v: %v, %v", lines, p, c)
		}
		return
	}
	at := from
	for _, line := range lines {
		if line.From != at || line.To <= at || line.To > to {
			t.Fatalf("P15.2, P4: a line from %d to %d behind one that ends at %d: %v", line.From, line.To, at, p)
		}
		cells, gaps := slowSize(p.Clusters[line.From:line.To], c.Tab)
		if line.End == api.Hyphen {
			cells++
		}
		if line.Cells != cells || cells > c.Width {
			t.Fatalf("P13.3, P5: %v has %d cells: %v, %v", line, cells, p, c)
		}
		if line.End != p.Opps[line.To] || line.End == api.Keep {
			t.Fatalf("P15.2, P4: %v ends where it may not, or not so: %v", line, p)
		}
		if r := float64(c.Width-cells) / float64(gaps); line.To < to && r > c.Loose {
			t.Fatalf("P6: %v is too loose, %v: %v, %v", line, r, p, c)
		}
		at = line.To
	}
	if at != to {
		t.Fatalf("P15.2, P4: lines from %d to %d, not to %d: %v", from, at, to, p)
	}
}

// holdBreak holds Break from a boundary on against what holds of all lines, and against slow ones.
func holdBreak(t *testing.T, p api.Para, from int, c api.Config) {
	t.Helper()
	to := must(p, from)
	lines, ok := best.Break(p, from, to, c)
	holds(t, p, from, to, c, lines, ok)
	if from == to {
		if !ok {
			t.Fatalf("P15.2: false of nothing between: %v, %v", p, c)
		}
		return
	}
	want := slowEnds(p, from, to, c)
	if !slices.EqualFunc(lines, want, func(line api.Line, end int) bool { return line.To == end }) || ok != (len(want) > 0) {
		t.Fatalf("P15.2: from %d to %d: %v, %v, want ends %v: %v, %v", from, to, lines, ok, want, p, c)
	}
}

// holdCosts holds Cost of all lines of a text, those that aren't any, too.
func holdCosts(t *testing.T, p api.Para, c api.Config) {
	t.Helper()
	for from := range p.Opps {
		for to := range p.Opps {
			for _, last := range []bool{false, true} {
				want := slowCost(p, from, to, last, c)
				n, ok := best.Cost(p, from, to, last, c)
				if ok != (want != never) || n != max(want, 0) {
					t.Fatalf("P15.1: from %d to %d, last %v: %d, %v, want %d: %v, %v", from, to, last, n, ok, want, p, c)
				}
			}
		}
	}
}

type dice uint64

func (d *dice) roll(n int) int {
	*d = *d*6364136223846793005 + 1442695040888963407
	return int(uint64(*d)>>33) % n
}

// text is up to so many clusters, with at most ten boundaries within a part at which a line may end; of which letters, and how often one may end, is rolled, too.
func (d *dice) text(most int) api.Para {
	n, seldom := 1+d.roll(most), 1+d.roll(6)
	letters := []string{sorts, "a ", "a  W", "abcd 0"}[d.roll(4)]
	p := api.Para{Clusters: make([]api.Cluster, n), Opps: make([]api.Opp, n+1)}
	ends := 0
	for i := range p.Clusters {
		p.Clusters[i] = cluster(letters[d.roll(len(letters))], i)
		if i == 0 || d.roll(seldom) > 0 {
			continue
		}
		p.Opps[i] = []api.Opp{api.May, api.Hyphen, api.May, api.Hyphen, api.Must}[d.roll(5)]
		if ends++; p.Opps[i] == api.Must || ends > 10 {
			p.Opps[i], ends = api.Must, 0
		}
	}
	p.Opps[n] = api.Must
	return p
}

// way is one by which rows of like costs come about now and then.
func (d *dice) way() api.Config {
	prices := []int{0, 0, 1, 100, 300, 12000, 656000, api.MaxCost}
	return api.Config{
		Width: 1 + d.roll(20), Tab: 1 + d.roll(9), Mode: api.Best,
		Hyphen: prices[d.roll(len(prices))], Pair: prices[d.roll(len(prices))],
		Loose: looses[d.roll(len(looses))],
	}
}

var looses = []float64{noNumber, infinite, 5, 2, 1, 0.5, 1.0 / 3, 0, minus0, -1, below, math.MaxFloat64}

// TestAgainstSlow: many longer texts, from each boundary on.
func TestAgainstSlow(t *testing.T) {
	d := dice(15)
	for range 3000 {
		p, c := d.text(36), d.way()
		if d.roll(3) > 0 {
			c.Loose = noNumber
		}
		holdCosts(t, p, c)
		for from := range p.Opps {
			holdBreak(t, p, from, c)
		}
	}
}

func FuzzBreak(f *testing.F) {
	f.Add(words, uint16(8), uint8(7), uint32(0), uint32(0), math.Inf(1))
	f.Add("W-0|t!=_a-", uint16(1), uint8(63), uint32(7), uint32(9), 0.5)
	f.Add("ab-0|0- -cd", uint16(2), uint8(1), uint32(1<<20), uint32(1<<20), math.NaN())
	f.Add("", uint16(0), uint8(0), uint32(0), uint32(0), -1.0)
	f.Fuzz(func(t *testing.T, told string, width uint16, tab uint8, hyphen, pair uint32, most float64) {
		p := text(told[:min(len(told), 40)])
		if len(p.Clusters) > 0 {
			p.Opps[0] = api.Keep
		}
		// A text that is told may hold the mark of Cut, which stands at no boundary; of many ends there are too many rows.
		ends := 0
		for i, opp := range p.Opps {
			p.Opps[i] = opp % api.Cut
			if p.Opps[i] != api.Keep {
				ends++
			}
		}
		if ends > 12 {
			return
		}
		c := api.Config{Width: 1 + int(width), Tab: 1 + int(tab)%api.MaxTab, Hyphen: int(hyphen) % (api.MaxCost + 1), Pair: int(pair) % (api.MaxCost + 1), Loose: most}
		right(t, p, c)
		holdCosts(t, p, c)
		for from := range p.Opps {
			holdBreak(t, p, from, c)
		}
	})
}
