package book_test

import (
	"math"
	"slices"
	"strconv"
	"strings"
	"testing"

	"stanza/api"
	"stanza/book"
)

// ends are what stands, where rows and clusters are told, for what was done at their ends: each at the place of its number.
const ends = ".|!-/"

var looses = []float64{-1, math.Copysign(0, -1), 0, 0.5, 1, 2, 10, math.Inf(-1), math.Inf(1), math.NaN()}

// simple is the chapter's example.
func simple() api.Data {
	return api.Data{
		Breaks:     []api.Range{{Lo: 10, Hi: 10, To: 2}, {Lo: 32, Hi: 32, To: 1}},
		Cells:      []api.Range{{Lo: 32, Hi: 32, To: 1}, {Lo: 33, Hi: 126, To: 1}},
		MarkRules:  "class O; may O / O;",
		BreakRules: "class O S N; keep S / S; may S / .; must N / .; keep . / .;",
		Left:       2, Right: 2,
	}
}

// rich has all that data may have: marks that stay with what is ahead, two bytes that end a line together, wide signs, words that may be cut, and letters that are great or small.
func rich() api.Data {
	return api.Data{
		Marks:  []api.Range{{Lo: 10, Hi: 10, To: 3}, {Lo: 13, Hi: 13, To: 2}, {Lo: 0x300, Hi: 0x36f, To: 1}},
		Breaks: []api.Range{{Lo: 9, Hi: 9, To: 1}, {Lo: 10, Hi: 10, To: 3}, {Lo: 13, Hi: 13, To: 2}, {Lo: 32, Hi: 32, To: 1}, {Lo: '-', Hi: '-', To: 4}, {Lo: 0x300, Hi: 0x36f, To: 5}, {Lo: 0x4e00, Hi: 0x9fff, To: 6}},
		Cells:  []api.Range{{Lo: 32, Hi: 126, To: 1}, {Lo: 0xa0, Hi: 0x2ff, To: 1}, {Lo: 0x4e00, Hi: 0x9fff, To: 2}, {Lo: api.Bad, Hi: api.Bad, To: 1}},
		Letters: []api.Range{
			{Lo: 'A', Hi: 'Z', To: 'a'}, {Lo: 'a', Hi: 'z', To: 'a'}, {Lo: 0xc9, Hi: 0xc9, To: 0xe9}, {Lo: 0xe9, Hi: 0xe9, To: 0xe9},
		},
		MarkRules: "class O M R N; keep R / N; may R | N / .; may . / R | N; keep . / M; # all else may",
		BreakRules: "class O S R N B M W; join M / O B W; keep R / N; must R | N / .;" +
			"keep . / S R | S N; keep . / [S R N]; may S / .; keep S B / .; may O B / O; may W / O | W; may O / W; keep . / .;",
		Patterns: "hy1p 1na. ta-ble x1y2 1\u00e91",
		Left:     2, Right: 2,
	}
}

// made is New of what is right.
func made(t *testing.T, d api.Data) *book.Book {
	t.Helper()
	b, f := book.New(d)
	if b == nil || f != (api.Fault{}) {
		t.Fatalf("P20.1: fault %v", f)
	}
	return b
}

// told writes rows: each one's bytes, how it ends, its cells. Rows that don't stand one behind the other are told as they are.
func told(text string, rows []api.Row) []string {
	var l []string
	from := 0
	for _, r := range rows {
		if r.From != from || r.To < from || r.To > len(text) || int(r.End) >= len(ends) {
			return append(l, "from "+strconv.Itoa(r.From)+" to "+strconv.Itoa(r.To)+", behind "+strconv.Itoa(from))
		}
		l = append(l, text[r.From:r.To]+ends[r.End:r.End+1]+strconv.Itoa(r.Cells))
		from = r.To
	}
	return l
}

// lays holds Lay of a text by rows as told writes them.
func lays(t *testing.T, b *book.Book, text string, c api.Config, isLoose bool, want ...string) {
	t.Helper()
	l, e := b.Lay([]byte(text), c)
	if got := told(text, l.Rows); e != api.OK || l.Loose != isLoose || !slices.Equal(got, want) {
		t.Errorf("P20.3: %q by %v: %q, %v, error %d, want %q, %v", text, c, got, l.Loose, e, want, isLoose)
	}
}

// shown writes a text of clusters: each one's bytes, the first letter of its kind, its cells, and behind it what may be done.
func shown(text string, p api.Para) string {
	if len(p.Opps) != len(p.Clusters)+1 {
		return "of another length"
	}
	var l []string
	from := 0
	for i, c := range p.Clusters {
		if c.At != from || c.Len < 1 || c.Len > len(text)-from || c.Kind > api.Tab || int(p.Opps[i+1]) >= len(ends) {
			return "wrong from " + strconv.Itoa(from) + " on"
		}
		from += c.Len
		l = append(l, strconv.QuoteToASCII(text[c.At:from])+"pst"[c.Kind:c.Kind+1]+strconv.Itoa(c.Cells)+ends[p.Opps[i+1]:p.Opps[i+1]+1])
	}
	if from != len(text) {
		return "up to " + strconv.Itoa(from)
	}
	return joined(l)
}

func joined(clusters []string) string { return strings.Join(clusters, " ") }

// shows holds Para of a text by clusters as shown writes them.
func shows(t *testing.T, b *book.Book, text string, want ...string) {
	t.Helper()
	p, e := b.Para([]byte(text))
	if got := shown(text, p); e != api.OK || got != joined(want) {
		t.Errorf("P20.2: %q: %s, error %d, want %s", text, got, e, joined(want))
	}
	if len(p.Opps) > 1 && p.Opps[0] != api.Keep {
		t.Errorf("P20.2: %q: at the beginning %d", text, p.Opps[0])
	}
}

func way(width int) api.Config { return api.Config{Width: width, Tab: 8} }

func best(width int, most float64) api.Config {
	return api.Config{Width: width, Tab: 8, Mode: api.Best, Loose: most}
}

// equal tells whether two texts of clusters are the same.
func equal(a, b api.Para) bool {
	return slices.Equal(a.Clusters, b.Clusters) && slices.Equal(a.Opps, b.Opps)
}

type dice uint64

func (d *dice) roll(n int) int {
	*d = *d*6364136223846793005 + 1442695040888963407
	return int(uint64(*d)>>33) % n
}

// row is n of these pieces, one behind the other.
func (d *dice) row(n int, pieces []string) string {
	var b strings.Builder
	for range n {
		b.WriteString(pieces[d.roll(len(pieces))])
	}
	return b.String()
}
