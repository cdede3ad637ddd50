package desk_test

import (
	"math"
	"strconv"
	"strings"

	"stanza/api"
	"stanza/desk"
)

// ends are what stands, where rows are told, for what was done at their ends: each at the place of its number.
const ends = ".|!-/"

var looses = []float64{-1, math.Copysign(0, -1), 0, 0.5, 1, 2, 10, math.Inf(-1), math.Inf(1), math.NaN()}

// simple is chapter 20's example.
func simple() api.Data {
	return api.Data{
		Breaks:     []api.Range{{Lo: 10, Hi: 10, To: 2}, {Lo: 32, Hi: 32, To: 1}},
		Cells:      []api.Range{{Lo: 32, Hi: 126, To: 1}},
		MarkRules:  "class O; may O / O;",
		BreakRules: "class O S N; keep S / S; may S / .; must N / .; keep . / .;",
		Left:       2, Right: 2,
	}
}

// rich has all that data may have, and rules that look over the ends of parts: signs that stay with what is ahead, wide ones, words that may be cut; behind a # anywhere ahead every space ends a line, and signs from a < up to a > stay together.
func rich() api.Data {
	return api.Data{
		Marks:      []api.Range{{Lo: '<', Hi: '<', To: 2}, {Lo: '>', Hi: '>', To: 3}, {Lo: 0x300, Hi: 0x36f, To: 1}},
		Breaks:     []api.Range{{Lo: 10, Hi: 10, To: 2}, {Lo: 32, Hi: 32, To: 1}, {Lo: '#', Hi: '#', To: 3}, {Lo: 0x4e00, Hi: 0x9fff, To: 4}},
		Cells:      []api.Range{{Lo: 32, Hi: 126, To: 1}, {Lo: 0xa0, Hi: 0x2ff, To: 1}, {Lo: 0x4e00, Hi: 0x9fff, To: 2}, {Lo: api.Bad, Hi: api.Bad, To: 1}},
		Letters:    []api.Range{{Lo: 'A', Hi: 'Z', To: 'a'}, {Lo: 'a', Hi: 'z', To: 'a'}},
		MarkRules:  "class O M B E; keep . / M; keep B [^ E]* / .; may . / .;",
		BreakRules: "class O S N H W; must N / .; must H .* S / .; keep S / S; may S / .; may W / O | W; may O / W; keep . / .;",
		Patterns:   "hy1p 1na. ta-ble x1y2",
		Left:       2, Right: 2,
	}
}

// pieces are what rolled texts are made of: what the data speak of, and bytes that are no sign.
func pieces() []string {
	return []string{"hyphen ", "table ", "a ", "b\n", "ab cd\n", "ab cd\n", "xyxy", "banana", " ", "\n", "\t", "\u0301", "\u65e5\u672c", "#", "<", ">", "\xff", "\xcc", "\x81", "\xe6\x97"}
}

// told writes rows: each one's bytes, how it ends, its cells. Rows that don't stand one behind the other are told as they are.
func told(text string, rows []api.Row) []string {
	var l []string
	from := 0
	for _, r := range rows {
		if r.From != from || r.To < from || r.To > len(text) || int(r.End) >= len(ends) {
			return append(l, "from "+strconv.Itoa(r.From)+" to "+strconv.Itoa(r.To)+", behind "+strconv.Itoa(from))
		}
		l = append(l, text[r.From:r.To]+ends[r.End:r.End+1]+strconv.Itoa(r.Cells))
		from = r.To
	}
	return l
}

func way(width int) api.Config { return api.Config{Width: width, Tab: 8} }

func best(width int, most float64) api.Config {
	return api.Config{Width: width, Tab: 8, Mode: api.Best, Loose: most}
}

// wrongWays are ways that are none: each number of one in turn below and above what may be.
func wrongWays() []api.Config {
	var l []api.Config
	beyond := func(least, most int, field func(c *api.Config) *int) {
		for _, n := range []int{math.MinInt, least - 1, most + 1, math.MaxInt} {
			for _, c := range []api.Config{way(5), best(5, 1)} {
				*field(&c) = n
				l = append(l, c)
			}
		}
	}
	beyond(1, api.MaxWidth, func(c *api.Config) *int { return &c.Width })
	beyond(1, api.MaxTab, func(c *api.Config) *int { return &c.Tab })
	beyond(0, api.MaxCost, func(c *api.Config) *int { return &c.Hyphen })
	beyond(0, api.MaxCost, func(c *api.Config) *int { return &c.Pair })
	for _, mode := range []api.Mode{2, 3, 255} {
		l = append(l, api.Config{Width: 5, Tab: 8, Mode: mode})
	}
	return append(l, api.Config{})
}

// edgeWays are ways with numbers as small and as great as may be, and any Loose.
func edgeWays() []api.Config {
	small, great := api.Config{Width: 1, Tab: 1}, api.Config{Width: api.MaxWidth, Tab: api.MaxTab, Hyphen: api.MaxCost, Pair: api.MaxCost}
	l := []api.Config{small, great}
	for _, most := range looses {
		for _, c := range []api.Config{small, great} {
			c.Mode, c.Loose = api.Best, most
			l = append(l, c)
		}
	}
	return l
}

// The steps, by what the chapter numbers them.

func edits(at, del int, ins string) desk.Step {
	return desk.Step{Do: 0, Edit: api.Edit{At: at, Del: del, Ins: []byte(ins)}}
}

func turns(c api.Config) desk.Step { return desk.Step{Do: 1, Config: c} }

func asksSpot(at int, back bool) desk.Step { return desk.Step{Do: 2, At: at, Back: back} }

func asksByte(row, col int) desk.Step {
	return desk.Step{Do: 3, Spot: api.Spot{Row: row, Col: col}}
}

type dice uint64

func (d *dice) roll(n int) int {
	*d = *d*6364136223846793005 + 1442695040888963407
	return int(uint64(*d)>>33) % n
}

// row is n of these pieces, one behind the other.
func (d *dice) row(n int, pieces []string) string {
	var b strings.Builder
	for range n {
		b.WriteString(pieces[d.roll(len(pieces))])
	}
	return b.String()
}

func (d *dice) way() api.Config {
	prices := []int{0, 0, 1, 100, 12000, api.MaxCost}
	return api.Config{
		Width: 1 + d.roll(12), Tab: 1 + d.roll(8), Mode: api.Mode(d.roll(2)),
		Hyphen: prices[d.roll(len(prices))], Pair: prices[d.roll(len(prices))],
		Loose: looses[d.roll(len(looses))],
	}
}
