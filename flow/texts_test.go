package flow_test

import (
	"math"
	"strconv"
	"strings"
	"testing"

	"stanza/api"
	"stanza/book"
	"stanza/flow"
)

// ends are what stands, where rows are told, for what was done at their ends: each at the place of its number.
const ends = ".|!-/"

var looses = []float64{-1, math.Copysign(0, -1), 0, 0.5, 1, 2, 10, math.Inf(-1), math.Inf(1), math.NaN()}

// simple is chapter 20's example.
func simple() api.Data {
	return api.Data{
		Breaks:     []api.Range{{Lo: 10, Hi: 10, To: 2}, {Lo: 32, Hi: 32, To: 1}},
		Cells:      []api.Range{{Lo: 32, Hi: 126, To: 1}},
		MarkRules:  "class O; may O / O;",
		BreakRules: "class O S N; keep S / S; may S / .; must N / .; keep . / .;",
		Left:       2, Right: 2,
	}
}

// letters are great and small ones, which are the same.
func letters() []api.Range {
	return []api.Range{{Lo: 'A', Hi: 'Z', To: 'a'}, {Lo: 'a', Hi: 'z', To: 'a'}}
}

// rich has all that data may have: marks that stay with what is ahead, two bytes that end a line together, wide signs, words that may be cut.
func rich() api.Data {
	return api.Data{
		Marks:     []api.Range{{Lo: 10, Hi: 10, To: 3}, {Lo: 13, Hi: 13, To: 2}, {Lo: 0x300, Hi: 0x36f, To: 1}},
		Breaks:    []api.Range{{Lo: 9, Hi: 9, To: 1}, {Lo: 10, Hi: 10, To: 3}, {Lo: 13, Hi: 13, To: 2}, {Lo: 32, Hi: 32, To: 1}, {Lo: '-', Hi: '-', To: 4}, {Lo: 0x300, Hi: 0x36f, To: 5}, {Lo: 0x4e00, Hi: 0x9fff, To: 6}},
		Cells:     []api.Range{{Lo: 32, Hi: 126, To: 1}, {Lo: 0xa0, Hi: 0x2ff, To: 1}, {Lo: 0x4e00, Hi: 0x9fff, To: 2}, {Lo: api.Bad, Hi: api.Bad, To: 1}},
		Letters:   letters(),
		MarkRules: "class O M R N; keep R / N; may R | N / .; may . / R | N; keep . / M;",
		BreakRules: "class O S R N B M W; join M / O B W; keep R / N; must R | N / .;" +
			"keep . / S R | S N; keep . / [S R N]; may S / .; keep S B / .; may O B / O; may W / O | W; may O / W; keep . / .;",
		Patterns: "hy1p 1na. ta-ble x1y2",
		Left:     2, Right: 2,
	}
}

// far has rules, and patterns, that look over the ends of parts: behind a # anywhere ahead every space ends a line; ahead of a ! anywhere behind, but for a ?, lines may end between all letters; signs from a < up to a > stay together; a k ends a line within its word.
func far() api.Data {
	return api.Data{
		Marks:      []api.Range{{Lo: '<', Hi: '<', To: 1}, {Lo: '>', Hi: '>', To: 2}},
		Breaks:     []api.Range{{Lo: 10, Hi: 10, To: 2}, {Lo: 32, Hi: 32, To: 1}, {Lo: '!', Hi: '!', To: 3}, {Lo: '#', Hi: '#', To: 4}, {Lo: '?', Hi: '?', To: 5}, {Lo: 'k', Hi: 'k', To: 6}},
		Cells:      []api.Range{{Lo: 32, Hi: 126, To: 1}},
		Letters:    letters(),
		MarkRules:  "class O B E; keep B [^ E]* / .; may . / .;",
		BreakRules: "class O S N A H Q K; must N | K / .; must H .* S / .; may O / O [^ Q]* A; may S / .; keep . / .;",
		Patterns:   "a1bkc tk-tk 1d1",
		Left:       1, Right: 1,
	}
}

// made is a book of what is right.
func made(t *testing.T, d api.Data) *book.Book {
	t.Helper()
	b, f := book.New(d)
	if b == nil || f != (api.Fault{}) {
		t.Fatalf("P20.1: fault %v", f)
	}
	return b
}

func way(width int) api.Config { return api.Config{Width: width, Tab: 8} }

func best(width int, most float64) api.Config {
	return api.Config{Width: width, Tab: 8, Mode: api.Best, Loose: most}
}

func put(at, del int, ins string) api.Edit { return api.Edit{At: at, Del: del, Ins: []byte(ins)} }

// told writes rows: each one's bytes, how it ends, its cells. Rows that don't stand one behind the other are told as they are.
func told(text string, rows []api.Row) []string {
	var l []string
	from := 0
	for _, r := range rows {
		if r.From != from || r.To < from || r.To > len(text) || int(r.End) >= len(ends) {
			return append(l, "from "+strconv.Itoa(r.From)+" to "+strconv.Itoa(r.To)+", behind "+strconv.Itoa(from))
		}
		l = append(l, text[r.From:r.To]+ends[r.End:r.End+1]+strconv.Itoa(r.Cells))
		from = r.To
	}
	return l
}

type dice uint64

func (d *dice) roll(n int) int {
	*d = *d*6364136223846793005 + 1442695040888963407
	return int(uint64(*d)>>33) % n
}

// row is n of these pieces, one behind the other.
func (d *dice) row(n int, pieces []string) string {
	var b strings.Builder
	for range n {
		b.WriteString(pieces[d.roll(len(pieces))])
	}
	return b.String()
}

func (d *dice) way() api.Config {
	prices := []int{0, 0, 1, 100, 12000, api.MaxCost}
	return api.Config{
		Width: 1 + d.roll(12), Tab: 1 + d.roll(8), Mode: api.Mode(d.roll(2)),
		Hyphen: prices[d.roll(len(prices))], Pair: prices[d.roll(len(prices))],
		Loose: looses[d.roll(len(looses))],
	}
}

// none is what New answers beside an error.
func none(t *testing.T, what string, b *book.Book, c api.Config, text []byte, want api.Errno) {
	t.Helper()
	if f, e := flow.New(b, c, text); f != nil || e != want {
		t.Errorf("P21.1, R3: %s: a flow %v, error %d, want %d", what, f != nil, e, want)
	}
}
