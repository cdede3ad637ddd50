package just_test

import (
	"iter"
	"math"
	"slices"
	"strconv"
	"testing"

	"stanza/api"
	"stanza/just"
	"stanza/lines"
)

// The tests of this file hold Line against a slow one of another make: cells are counted one by one, without the layers below, and the room is given to the spaces by slowSpread.

// seen tells whether a cluster counts at a line's end.
func seen(c api.Cluster) bool {
	return c.Kind == api.Tab || c.Kind == api.Plain && c.Cells > 0
}

func slowLine(p api.Para, l api.Line, c api.Config) []int {
	var widths, gaps []int
	col, behind, hyphen, within, seenGaps := 0, 0, 0, 0, 0
	for i, cluster := range p.Clusters[l.From:l.To] {
		width := cluster.Cells
		if cluster.Kind == api.Tab {
			for width = 1; (col+width)%c.Tab != 0; {
				width++
			}
		}
		col += width
		widths = append(widths, width)
		if cluster.Kind == api.Space {
			gaps = append(gaps, i)
		}
		if seen(cluster) {
			within, behind, seenGaps = i+1, col, len(gaps)
		}
	}
	widths, gaps = widths[:within], gaps[:seenGaps]
	if l.End == api.Hyphen {
		hyphen = 1
	}
	if l.End == api.May || l.End == api.Hyphen {
		for k, n := range slowSpread(c.Width-behind-hyphen, len(gaps)) {
			widths[gaps[k]] += n
		}
	}
	return widths
}

// holdSum holds what P18.2 and P18.3 together say of a line: what is spread is its room in all, over its spaces alone, of which no two are given more unlike than by 1.
func holdSum(t *testing.T, p api.Para, l api.Line, c api.Config, widths []int) {
	t.Helper()
	bare := l
	bare.End = api.Must
	was := just.Line(p, bare, c)
	if len(was) != len(widths) {
		t.Fatalf("P18.2: %v has %v, as a last one %v: %v", l, widths, was, p)
	}
	sum, more := 0, []int{}
	for i, n := range widths {
		sum += n
		if p.Clusters[l.From+i].Kind == api.Space {
			more = append(more, n-was[i])
		} else if n != was[i] {
			t.Fatalf("P18.2: %v has %v, without what is spread %v: %v", l, widths, was, p)
		}
	}
	if l.End == api.Hyphen {
		sum++
	}
	filled := (l.End == api.May || l.End == api.Hyphen) && len(more) > 0 && l.Cells <= c.Width
	if filled && sum != c.Width || !filled && sum != l.Cells {
		t.Fatalf("P18.2, P18.3: %v has %d cells in all: %v, %v", l, sum, p, c)
	}
	if len(more) > 0 && slices.Max(more)-slices.Min(more) > 1 {
		t.Fatalf("P18.3: %v has %v more: %v, %v", l, more, p, c)
	}
}

// holdLine holds Line of a line by the way that made it, and by another one.
func holdLine(t *testing.T, p api.Para, l api.Line, c, other api.Config) {
	t.Helper()
	got := just.Line(p, l, c)
	if want := slowLine(p, l, c); !slices.Equal(got, want) {
		t.Fatalf("P18.2: %v: %v, want %v: %v, %v", l, got, want, p, c)
	}
	holdSum(t, p, l, c, got)
	if got, want := just.Line(p, l, other), slowLine(p, l, other); !slices.Equal(got, want) {
		t.Fatalf("P18.2: %v by another way: %v, want %v: %v, %v", l, got, want, p, other)
	}
}

// hold holds Line of all of a text's lines by a way, in both modes.
func hold(t *testing.T, p api.Para, c api.Config) {
	t.Helper()
	other := c
	other.Width, other.Tab = 1+(c.Width*7)%11, 1+(c.Tab*5)%9
	for _, c.Mode = range []api.Mode{api.First, api.Best} {
		l, _ := lines.Break(p, c)
		for _, line := range l {
			holdLine(t, p, line, c, other)
		}
	}
}

type dice uint64

func (d *dice) roll(n int) int {
	*d = *d*6364136223846793005 + 1442695040888963407
	return int(uint64(*d)>>33) % n
}

// text is up to so many clusters of any bytes; of which letters, and how often a line may end, is rolled, too.
func (d *dice) text(most int) api.Para {
	n, seldom := d.roll(most+1), 1+d.roll(8)
	letters := []string{sorts, "a ", "a  W", "abcd 0", "0_at", "ab =_Wt"}[d.roll(6)]
	p := api.Para{Clusters: make([]api.Cluster, n), Opps: make([]api.Opp, n+1)}
	at := 0
	for i := range p.Clusters {
		p.Clusters[i] = cluster(letters[d.roll(len(letters))], at)
		p.Clusters[i].Len = 1 + d.roll(5)
		at += p.Clusters[i].Len
		if i > 0 && d.roll(seldom) == 0 {
			p.Opps[i] = []api.Opp{api.May, api.Hyphen, api.May, api.Hyphen, api.Must}[d.roll(5)]
		}
	}
	p.Opps[n] = api.Must
	return p
}

func (d *dice) way() api.Config {
	return api.Config{
		Width: 1 + d.roll(25), Tab: 1 + d.roll(9), Hyphen: 100 * d.roll(3), Pair: 1000 * d.roll(3),
		Loose: []float64{math.NaN(), math.Inf(1), 5, 2, 1, 0.5, 0, -1}[d.roll(8)],
	}
}

// TestAgainstSlow: many longer texts.
func TestAgainstSlow(t *testing.T) {
	d := dice(18)
	for range 10000 {
		p, c := d.text(80), d.way()
		right(t, p, c)
		hold(t, p, c)
	}
}

// turn makes the next of all rows of numbers below a bound; false: that was the last one.
func turn(row []int, bound int) bool {
	for i := range row {
		row[i]++
		if row[i] < bound {
			return true
		}
		row[i] = 0
	}
	return false
}

// texts are all texts of so many clusters (one at least), of some sorts, with some things that may be done between them. The same memory is used for all of them.
func texts(n int, sorts string, opps ...api.Opp) iter.Seq[api.Para] {
	return func(yield func(api.Para) bool) {
		p := api.Para{Clusters: make([]api.Cluster, n), Opps: make([]api.Opp, n+1)}
		p.Opps[n] = api.Must
		clusters, between := make([]int, n), make([]int, n-1)
		for more := true; more; more = turn(clusters, len(sorts)) {
			for i, sort := range clusters {
				p.Clusters[i] = cluster(sorts[sort], i)
			}
			for more := true; more; more = turn(between, len(opps)) {
				for i, opp := range between {
					p.Opps[i+1] = opps[opp]
				}
				if !yield(p) {
					return
				}
			}
		}
	}
}

// widths runs a test at each of some small widths, beside the others.
func widths(t *testing.T, most int, test func(t *testing.T, width int)) {
	for width := 1; width <= most; width++ {
		t.Run(strconv.Itoa(width), func(t *testing.T) {
			t.Parallel()
			test(t, width)
		})
	}
}

// P18.2, P18.3: all texts of up to three clusters of all sorts, with all that may be done, in both modes.
func TestAllOfThree(t *testing.T) {
	widths(t, 6, func(t *testing.T, width int) {
		for n := 1; n <= 3; n++ {
			for p := range texts(n, sorts, api.Keep, api.May, api.Must, api.Hyphen) {
				hold(t, p, api.Config{Width: width, Tab: 1 + (width+n)%4, Loose: 1})
			}
		}
	})
}

// P18.2, P18.3: all texts of four clusters of each kind, with all that may be done, in both modes.
func TestAllOfFour(t *testing.T) {
	widths(t, 6, func(t *testing.T, width int) {
		for p := range texts(4, "0W t", api.Keep, api.May, api.Must, api.Hyphen) {
			hold(t, p, api.Config{Width: width, Tab: 3, Hyphen: 30, Loose: math.NaN()})
		}
	})
}

// P18.2: all texts of six clusters of a few sorts: lines from the beginning up to each boundary, with room, by each end.
func TestAllOfSix(t *testing.T) {
	for p := range texts(6, "a W_t", api.Keep) {
		for to := 1; to <= 6; to++ {
			for end := api.May; end <= api.Cut; end++ {
				l := api.Line{To: to, End: end}
				c := api.Config{Width: 27, Tab: 4}
				if got, want := just.Line(p, l, c), slowLine(p, l, c); !slices.Equal(got, want) {
					t.Fatalf("P18.2: %v: %v, want %v: %v", l, got, want, p)
				}
			}
		}
	}
}

func FuzzLine(f *testing.F) {
	f.Add("a b |ccccc", uint16(5), uint8(7), false)
	f.Add("W-0|t!=_a-", uint16(1), uint8(63), true)
	f.Add("a b-0|0- -cd!abcdef!a b", uint16(6), uint8(1), true)
	f.Add("", uint16(0), uint8(0), false)
	f.Fuzz(func(t *testing.T, told string, width uint16, tab uint8, loose bool) {
		p := text(told[:min(len(told), 80)])
		if len(p.Clusters) > 0 {
			p.Opps[0] = api.Keep
		}
		// A text that is told may hold the mark of Cut, which stands at no boundary.
		for i, opp := range p.Opps {
			p.Opps[i] = opp % api.Cut
		}
		c := api.Config{Width: 1 + int(width), Tab: 1 + int(tab)%api.MaxTab, Loose: 1}
		if loose {
			c.Loose = math.NaN()
		}
		right(t, p, c)
		hold(t, p, c)
	})
}
