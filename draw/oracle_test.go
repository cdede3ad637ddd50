package draw_test

import (
	"bytes"
	"iter"
	"math"
	"strconv"
	"strings"
	"testing"

	"stanza/api"
	"stanza/draw"
	"stanza/just"
	"stanza/lines"
	"stanza/span"
)

// The tests of this file hold Row against a slow one of another make, which draws a line cell by cell, as the chapters' words go, without the layers below.

// isEmpty tells whether nothing of a cluster is drawn at a line's end.
func isEmpty(c api.Cluster) bool {
	return c.Kind == api.Space || c.Kind == api.Plain && c.Cells == 0
}

// piece is what is drawn of a cluster of a line: bytes, or, where it is a space or a tab, as many blanks.
type piece struct {
	letters string
	blanks  int
	isGap   bool
}

// pieces are those of a line, with nothing spread, and how many cells they have in all.
func pieces(text []byte, p api.Para, l api.Line, tab int) ([]piece, int) {
	last := l.To
	for last > l.From && isEmpty(p.Clusters[last-1]) {
		last--
	}
	var drawn []piece
	col := 0
	for i := l.From; i < last; i++ {
		c := p.Clusters[i]
		switch c.Kind {
		case api.Plain:
			drawn = append(drawn, piece{letters: string(text[c.At : c.At+c.Len])})
			col += c.Cells
		case api.Space:
			drawn = append(drawn, piece{blanks: c.Cells, isGap: true})
			col += c.Cells
		case api.Tab:
			n := 0
			for n == 0 || col%tab != 0 {
				col, n = col+1, n+1
			}
			drawn = append(drawn, piece{blanks: n})
		}
	}
	return drawn, col
}

// spread gives room to the gaps: the k-th of n has had room k / n, cut down, when it has been given its share.
func spread(drawn []piece, room int) {
	n, given, k := 0, 0, 0
	for _, one := range drawn {
		if one.isGap {
			n++
		}
	}
	for i, one := range drawn {
		if !one.isGap || room < 0 {
			continue
		}
		for k++; (given+1)*n <= room*k; given++ {
			drawn[i].blanks++
		}
	}
}

func slowRow(text []byte, p api.Para, l api.Line, c api.Config, full bool) string {
	drawn, cells := pieces(text, p, l, c.Tab)
	hyphen := ""
	if l.End == api.Hyphen {
		hyphen = "-"
	}
	if full && l.End != api.Must && l.End != api.Cut {
		spread(drawn, c.Width-cells-len(hyphen))
	}
	var b strings.Builder
	for _, one := range drawn {
		b.WriteString(one.letters)
		b.WriteString(strings.Repeat(" ", one.blanks))
	}
	return b.String() + hyphen
}

// holdWidths holds a row against widths, as many as there are clusters up to the last one that is seen, one by one.
func holdWidths(t *testing.T, text []byte, p api.Para, l api.Line, row []byte, widths []int) {
	t.Helper()
	rest := row
	for i, n := range widths {
		c := p.Clusters[l.From+i]
		want := bytes.Repeat([]byte{32}, n)
		if c.Kind == api.Plain {
			want = text[c.At : c.At+c.Len]
		}
		if !bytes.HasPrefix(rest, want) {
			t.Fatalf("P22.1: %v is drawn as %q, by widths %v not so at %d: %q, %v", l, row, widths, i, text, p)
		}
		rest = rest[len(want):]
	}
	if (l.End == api.Hyphen) != (string(rest) == "-") || l.End != api.Hyphen && len(rest) > 0 {
		t.Fatalf("P22.1: %v is drawn as %q, ended by %q behind widths %v: %q, %v", l, row, rest, widths, text, p)
	}
}

// steps are how far the columns of a line's clusters are apart, up to Trim.
func steps(p api.Para, l api.Line, tab int) []int {
	columns := span.Columns(p, l.From, span.Trim(p, l.From, l.To), tab)
	var widths []int
	for i, col := range columns[1:] {
		widths = append(widths, col-columns[i])
	}
	return widths
}

// holdRow holds Row of a line, as it is and filled.
func holdRow(t *testing.T, text []byte, p api.Para, l api.Line, c api.Config) {
	t.Helper()
	for _, full := range []bool{false, true} {
		if got, want := string(draw.Row(text, p, l, c, full)), slowRow(text, p, l, c, full); got != want {
			t.Fatalf("P22.1: %v, filled %v, by %v: %q, want %q: %q, %v", l, full, c, got, want, text, p)
		}
	}
	holdWidths(t, text, p, l, draw.Row(text, p, l, c, false), steps(p, l, c.Tab))
	holdWidths(t, text, p, l, draw.Row(text, p, l, c, true), just.Line(p, l, c))
}

// hold holds the rows of all of a text's lines by a way, in both modes, and of lines that another way made.
func hold(t *testing.T, text []byte, p api.Para, c api.Config) {
	t.Helper()
	other := c
	other.Width, other.Tab = 1+(c.Width*7)%11, 1+(c.Tab*5)%9
	for _, c.Mode = range []api.Mode{api.First, api.Best} {
		l, _ := lines.Break(p, c)
		for _, line := range l {
			holdRow(t, text, p, line, c)
			holdRow(t, text, p, line, other)
		}
		allOf(t, text, p, l, c, false)
		allOf(t, text, p, l, c, true)
	}
}

type dice uint64

func (d *dice) roll(n int) int {
	*d = *d*6364136223846793005 + 1442695040888963407
	return int(uint64(*d)>>33) % n
}

// bytes are some, of any kind; blanks, tabs and hyphens are often among them.
func (d *dice) bytes(n int) []byte {
	l := make([]byte, n)
	for i := range l {
		l[i] = byte(d.roll(256))
		if d.roll(3) == 0 {
			l[i] = " \t-\n\xff"[d.roll(5)]
		}
	}
	return l
}

// text is up to so many clusters of any bytes; of which letters, and how often a line may end, is rolled, too.
func (d *dice) text(most int) ([]byte, api.Para) {
	n, seldom := d.roll(most+1), 1+d.roll(8)
	letters := []string{sorts, "a ", "a  W", "abcd 0", "0_at", "ab =_Wt"}[d.roll(6)]
	p := api.Para{Clusters: make([]api.Cluster, n), Opps: make([]api.Opp, n+1)}
	at := 0
	for i := range p.Clusters {
		p.Clusters[i] = cluster(letters[d.roll(len(letters))], at)
		p.Clusters[i].Len = 1 + d.roll(5)
		at += p.Clusters[i].Len
		if i > 0 && d.roll(seldom) == 0 {
			p.Opps[i] = []api.Opp{api.May, api.Hyphen, api.May, api.Hyphen, api.Must}[d.roll(5)]
		}
	}
	p.Opps[n] = api.Must
	return d.bytes(at), p
}

func (d *dice) way() api.Config {
	return api.Config{
		Width: 1 + d.roll(25), Tab: 1 + d.roll(9), Hyphen: 100 * d.roll(3), Pair: 1000 * d.roll(3),
		Loose: []float64{math.NaN(), math.Inf(1), 5, 2, 1, 0.5, 0, -1}[d.roll(8)],
	}
}

// P22.1: many longer texts of any bytes.
func TestAgainstSlow(t *testing.T) {
	d := dice(22)
	for range 8000 {
		text, p := d.text(80)
		c := d.way()
		right(t, text, p, c)
		hold(t, text, p, c)
	}
}

// P22.1: any lines of many texts, from one boundary up to another one, however they end.
func TestAnyLinesAgainstSlow(t *testing.T) {
	d := dice(2222)
	for range 20000 {
		text, p := d.text(40)
		from := d.roll(len(p.Opps))
		to := from + d.roll(len(p.Opps)-from)
		c := d.way()
		c.Width += d.roll(100)
		holdRow(t, text, p, span.Make(p, from, to, api.Opp(1+d.roll(4)), c.Tab), c)
	}
}

// turn makes the next of all rows of numbers below a bound; false: that was the last one.
func turn(row []int, bound int) bool {
	for i := range row {
		row[i]++
		if row[i] < bound {
			return true
		}
		row[i] = 0
	}
	return false
}

// texts are all texts of so many clusters (one at least), of some sorts, with some things that may be done between them; each byte is another one. The same memory is used for all of them.
func texts(n int, sorts string, opps ...api.Opp) iter.Seq2[[]byte, api.Para] {
	return func(yield func([]byte, api.Para) bool) {
		p := api.Para{Clusters: make([]api.Cluster, n), Opps: make([]api.Opp, n+1)}
		p.Opps[n] = api.Must
		text := []byte("ABCDEFGHIJKLMNOPQRSTUVWXYZ")[:2*n]
		clusters, between := make([]int, n), make([]int, n-1)
		for more := true; more; more = turn(clusters, len(sorts)) {
			for i, sort := range clusters {
				p.Clusters[i] = cluster(sorts[sort], 2*i)
				p.Clusters[i].Len = 2
			}
			for more := true; more; more = turn(between, len(opps)) {
				for i, opp := range between {
					p.Opps[i+1] = opps[opp]
				}
				if !yield(text, p) {
					return
				}
			}
		}
	}
}

// widths runs a test at each of some small widths, beside the others.
func widths(t *testing.T, most int, test func(t *testing.T, width int)) {
	for width := 1; width <= most; width++ {
		t.Run(strconv.Itoa(width), func(t *testing.T) {
			t.Parallel()
			test(t, width)
		})
	}
}

// P22.1: all texts of up to three clusters of all sorts, with all that may be done, in both modes.
func TestAllOfThree(t *testing.T) {
	widths(t, 6, func(t *testing.T, width int) {
		for n := 1; n <= 3; n++ {
			for text, p := range texts(n, sorts, api.Keep, api.May, api.Must, api.Hyphen) {
				hold(t, text, p, api.Config{Width: width, Tab: 1 + (width+n)%4, Loose: 1})
			}
		}
	})
}

// P22.1: all texts of four clusters of each kind, with what may be done without a Must, in both modes.
func TestAllOfFour(t *testing.T) {
	widths(t, 6, func(t *testing.T, width int) {
		for text, p := range texts(4, "0W t", api.Keep, api.May, api.Hyphen) {
			hold(t, text, p, api.Config{Width: width, Tab: 3, Hyphen: 30, Loose: math.NaN()})
		}
	})
}

// P22.1: all texts of five clusters of a few sorts: lines from each boundary up to each other one, with room, by each end.
func TestAllLinesOfFive(t *testing.T) {
	for text, p := range texts(5, "a0 =t", api.Keep) {
		for from := range p.Opps {
			for to := from; to < len(p.Opps); to++ {
				for end := api.May; end <= api.Cut; end++ {
					holdRow(t, text, p, api.Line{From: from, To: to, End: end}, api.Config{Width: 23, Tab: 4})
				}
			}
		}
	}
}

func FuzzRow(f *testing.F) {
	f.Add("a b |ccccc", uint16(5), uint8(7), false)
	f.Add("W-0|t!=_a-", uint16(1), uint8(63), true)
	f.Add("a b-0|0- -cN!aE?def!a b", uint16(6), uint8(1), true)
	f.Add("", uint16(0), uint8(0), false)
	f.Fuzz(func(t *testing.T, told string, width uint16, tab uint8, loose bool) {
		text, p := read(told[:min(len(told), 80)])
		if len(p.Clusters) > 0 {
			p.Opps[0] = api.Keep
		}
		// A text that is told may hold the mark of Cut, which stands at no boundary.
		for i, opp := range p.Opps {
			p.Opps[i] = opp % api.Cut
		}
		c := api.Config{Width: 1 + int(width), Tab: 1 + int(tab)%api.MaxTab, Loose: 1}
		if loose {
			c.Loose = math.NaN()
		}
		right(t, text, p, c)
		hold(t, text, p, c)
	})
}
