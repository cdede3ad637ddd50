package flow_test

import (
	"math"
	"testing"

	"stanza/api"
)

const turnText = "a hyphen\tb not \u65e5\u672c a\u0301\r\n\n a table\tc d\nhyphyphyp"

// P21.2, R4: ways that are none, behind which all answers are what they were.
func TestNoWays(t *testing.T) {
	for _, c := range []api.Config{way(4), best(4, 2), best(9, math.NaN())} {
		for _, text := range []string{"", turnText} {
			x := start(t, made(t, rich()), c, text)
			for _, wrong := range wrongWays() {
				x.refuseWay(wrong)
			}
			x.edit(0, 0, "a b")
			x.refuseWay(wrongWays()[0])
		}
	}
}

// P21.2: another way, the same one, and back, by rows.
func TestTurns(t *testing.T) {
	x := start(t, made(t, rich()), way(6), "a hyphen\nb c")
	first := []string{"a hy-5", "phen\n!4", "b c!3"}
	x.rows(false, first...)
	x.turn(way(6))
	x.rows(false, first...)
	x.turn(way(3))
	x.rows(false, "a |1", "hy-3", "phe/3", "n\n!1", "b c!3")
	x.turn(way(2))
	x.rows(false, "a |1", "hy/2", "ph/2", "en\n!2", "b |1", "c!1")
	x.turn(way(6))
	x.rows(false, first...)
	x.turn(best(3, 0))
	x.rows(true, "a |1", "hy-3", "phe/3", "n\n!1", "b c!3")
	x.turn(best(7, 0))
	x.rows(true, first...)
	x.turn(best(7, 3))
	x.rows(false, first...)
	x.turn(api.Config{Width: 7, Tab: 8, Mode: api.Best, Loose: math.Inf(1), Hyphen: api.MaxCost})
	x.rows(false, first...)
	x.turn(way(8))
	x.rows(false, "a hyphen\n!8", "b c!3")
}

// fields are ways that differ from each other in one field alone.
func fields() []api.Config {
	base := api.Config{Width: 7, Tab: 4, Mode: api.Best, Hyphen: 10, Pair: 20, Loose: 1}
	l := []api.Config{base}
	other := func(change func(c *api.Config)) {
		c := base
		change(&c)
		l = append(l, c)
	}
	for _, n := range []int{1, 2, 3, 6, 8, 80} {
		other(func(c *api.Config) { c.Width = n })
	}
	for _, n := range []int{1, 2, 3, 5, 64} {
		other(func(c *api.Config) { c.Tab = n })
	}
	for _, n := range []int{0, 5000, 1000000} {
		other(func(c *api.Config) { c.Hyphen = n })
		other(func(c *api.Config) { c.Pair = n })
	}
	for _, r := range looses {
		other(func(c *api.Config) { c.Loose = r })
	}
	other(func(c *api.Config) { c.Mode = api.First })
	return l
}

// P21.2: each way to each other one that differs in one field, with a change between that leaves parts as they were.
func TestFields(t *testing.T) {
	b := made(t, rich())
	base := fields()[0]
	for _, c := range fields() {
		x := start(t, b, base, turnText)
		x.turn(c)
		x.edit(0, 0, "b ")
		x.turn(base)
		x.turn(c)
		x.turn(c)
		x.edit(len(x.text), 0, "\nc")
		x.turn(base)
	}
	x := start(t, b, base, turnText)
	for _, from := range fields() {
		for _, to := range fields() {
			x.turn(from)
			x.turn(to)
		}
	}
}

// P21.2: each field by itself makes another layout of some text, and back.
func TestFieldsSay(t *testing.T) {
	b := made(t, rich())
	for _, told := range []struct {
		text   string
		width  int
		change func(c *api.Config)
	}{
		{"a table b", 9, func(c *api.Config) { c.Width = 6 }},
		{"a\tb hyphen", 9, func(c *api.Config) { c.Tab = 8 }},
		{"aaa bbb c dddd eeeeeeeee", 9, func(c *api.Config) { c.Mode = api.First }},
		{"a b c hyphen d", 9, func(c *api.Config) { c.Hyphen = api.MaxCost }},
		{"a a a aa hyphenx c c c table b", 15, func(c *api.Config) { c.Pair = 100000 }},
		{"a b c hyphen d", 9, func(c *api.Config) { c.Loose = -1 }},
	} {
		base := api.Config{Width: told.width, Tab: 4, Mode: api.Best, Loose: 20}
		x := start(t, b, base, told.text)
		had := x.flow.Layout()
		c := base
		told.change(&c)
		x.turn(c)
		if same(had, x.flow.Layout()) {
			t.Errorf("%q: %v says what %v says: %v", told.text, c, base, had)
		}
		x.turn(base)
		if !same(had, x.flow.Layout()) {
			t.Errorf("P21.2: %q: %v, want %v", told.text, x.flow.Layout(), had)
		}
	}
}

// P21.2: no number, and the two zeros, as Loose.
func TestLooseEdges(t *testing.T) {
	zero, below := math.Float64frombits(0), math.Copysign(0, -1)
	x := start(t, made(t, rich()), best(8, math.NaN()), "a table c\nb c d e f")
	had := x.flow.Layout()
	for _, most := range []float64{zero, below, math.NaN(), zero, zero, below, below, math.NaN(), math.NaN(), -1, math.NaN(), math.Inf(1), math.NaN(), math.Inf(-1), math.NaN()} {
		x.turn(best(8, most))
		x.edit(len(x.text), 0, "")
		if loose := most <= 0; x.flow.Layout().Loose != loose {
			t.Errorf("P21.2: by %v: %v", most, x.flow.Layout())
		}
	}
	if !same(x.flow.Layout(), had) {
		t.Errorf("P21.2: %v, want %v", x.flow.Layout(), had)
	}
}
