package book_test

import (
	"math"
	"testing"

	"stanza/api"
	"stanza/book"
)

func nilBook() *book.Book { return nil }

// layError holds Lay of what is refused.
func layError(t *testing.T, b *book.Book, text []byte, c api.Config, want api.Errno) {
	t.Helper()
	if l, e := b.Lay(text, c); e != want || l.Rows != nil || l.Loose {
		t.Errorf("P20.3, R3: %d bytes by %v: %v, error %d, want %d", len(text), c, l, e, want)
	}
}

func TestExamples(t *testing.T) {
	lays(t, made(t, simple()), "ab cd\ne", way(3), false, "ab |2", "cd\n!2", "e!1")
	l, e := made(t, simple()).Lay([]byte("ab cd\ne"), way(3))
	if e != api.OK || l.Loose || len(l.Rows) != 3 || l.Rows[0] != (api.Row{From: 0, To: 3, Cells: 2, End: api.May}) || l.Rows[1] != (api.Row{From: 3, To: 6, Cells: 2, End: api.Must}) || l.Rows[2] != (api.Row{From: 6, To: 7, Cells: 1, End: api.Must}) {
		t.Errorf("P20.3: %v, error %d", l, e)
	}
}

// TestReadme holds what README says of book.
func TestReadme(t *testing.T) {
	d := api.Data{
		Breaks:     []api.Range{{Lo: 10, Hi: 10, To: 2}, {Lo: 32, Hi: 32, To: 1}},
		Cells:      []api.Range{{Lo: 32, Hi: 126, To: 1}},
		Letters:    []api.Range{{Lo: 'A', Hi: 'Z', To: 'a'}, {Lo: 'a', Hi: 'z', To: 'a'}},
		MarkRules:  "class O; may O / O;",
		BreakRules: "class O S N; keep S / S; may S / .; must N / .; keep . / .;",
		Patterns:   "hy1p ta-ble",
		Left:       2, Right: 2,
	}
	b, f := book.New(d)
	if f != (api.Fault{}) {
		t.Fatal("README: ", f)
	}
	shows(t, b, "a table", `"a"p1.`, `" "s1|`, `"t"p1.`, `"a"p1-`, `"b"p1.`, `"l"p1.`, `"e"p1!`)
	c := api.Config{Width: 5, Tab: 8}
	lays(t, b, "a table\nb", c, false, "a ta-5", "ble\n!3", "b!1")
	c.Mode, c.Loose = api.Best, 1
	lays(t, b, "a table\nb", c, false, "a ta-5", "ble\n!3", "b!1")
	c.Width = 2
	lays(t, b, "a table\nb", c, true, "a |1", "ta/2", "bl/2", "e\n!1", "b!1")
	layError(t, b, make([]byte, 4097), c, api.ErrText)
	layError(t, b, make([]byte, 4097), api.Config{}, api.ErrConfig)
	d.Patterns = "hy1p 1"
	if _, f := book.New(d); f != at(api.ErrPattern, 5) {
		t.Error("README: ", f)
	}
}

// wrongWays are ways that span.Check refuses, one number of each beyond what may be.
func wrongWays() []api.Config {
	var l []api.Config
	put := func(change func(c *api.Config)) {
		for _, c := range []api.Config{way(5), best(5, 1)} {
			change(&c)
			l = append(l, c)
		}
	}
	for _, n := range []int{math.MinInt, -1, 0, api.MaxWidth + 1, math.MaxInt} {
		put(func(c *api.Config) { c.Width = n })
	}
	for _, n := range []int{math.MinInt, -1, 0, api.MaxTab + 1, math.MaxInt} {
		put(func(c *api.Config) { c.Tab = n })
	}
	for _, mode := range []api.Mode{2, 3, 255} {
		put(func(c *api.Config) { c.Mode = mode })
	}
	for _, n := range []int{math.MinInt, -1, api.MaxCost + 1, math.MaxInt} {
		put(func(c *api.Config) { c.Hyphen = n })
		put(func(c *api.Config) { c.Pair = n })
	}
	return append(l, api.Config{})
}

// P20.3, R2, R3: a way that is none is told ahead of a text that is too long, and of a nil book.
func TestErrors(t *testing.T) {
	b := made(t, rich())
	long, longest := make([]byte, api.MaxText+1), make([]byte, api.MaxText)
	for _, c := range wrongWays() {
		for _, text := range [][]byte{nil, []byte("a b"), longest, long} {
			layError(t, b, text, c, api.ErrConfig)
			layError(t, nil, text, c, api.ErrConfig)
		}
	}
	for _, c := range []api.Config{way(1), best(1, math.NaN()), {Width: api.MaxWidth, Tab: api.MaxTab, Mode: api.Best, Hyphen: api.MaxCost, Pair: api.MaxCost}} {
		layError(t, b, long, c, api.ErrText)
		layError(t, nil, long, c, api.ErrNil)
		layError(t, nil, nil, c, api.ErrNil)
		if l, e := b.Lay(longest, c); e != api.OK || len(l.Rows) == 0 {
			t.Errorf("P20.3: 4096 bytes by %v: error %d", c, e)
		}
	}
}

// P20.3: Loose may be any number; in mode First it says nothing.
func TestAnyLoose(t *testing.T) {
	b := made(t, simple())
	for _, most := range looses {
		c := way(4)
		c.Loose = most
		lays(t, b, "a b cc d", c, false, "a b |3", "cc d!4")
	}
	for _, most := range []float64{1, 2, math.Inf(1), math.NaN()} {
		lays(t, b, "a b cc d", best(4, most), false, "a b |3", "cc d!4")
	}
	for _, most := range []float64{0.5, 0, math.Copysign(0, -1), -1, math.Inf(-1)} {
		lays(t, b, "a b cc d", best(4, most), true, "a b |3", "cc d!4")
	}
	for _, most := range []float64{0, math.Copysign(0, -1)} {
		lays(t, b, "a b cc d", best(3, most), true, "a b |3", "cc |2", "d!1")
		lays(t, b, "a b c d", best(3, most), false, "a b |3", "c d!3")
	}
	// What is no number isn't above anything: a line without room and without gaps.
	lays(t, b, "abc d", best(3, math.Inf(-1)), false, "abc |3", "d!1")
	lays(t, b, "ab d", best(3, math.MaxFloat64), true, "ab |2", "d!1")
}

// P20.3: no text is one row of nothing.
func TestLayOfNothing(t *testing.T) {
	for _, d := range []api.Data{simple(), rich()} {
		for _, c := range []api.Config{way(1), best(1, -1), way(api.MaxWidth)} {
			lays(t, made(t, d), "", c, false, "!0")
		}
	}
}

// P20.3, P4: every Must ends a row, also one that nothing else is ahead of; at the text's end none of nothing follows.
func TestMusts(t *testing.T) {
	b := made(t, simple())
	for _, c := range []api.Config{way(3), best(3, math.Inf(1))} {
		lays(t, b, "ab", c, false, "ab!2")
		lays(t, b, "ab\n", c, false, "ab\n!2")
		lays(t, b, "ab\n\n", c, false, "ab\n!2", "\n!0")
		lays(t, b, "\n", c, false, "\n!0")
		lays(t, b, "\n\n\na", c, false, "\n!0", "\n!0", "\n!0", "a!1")
		lays(t, b, "ab\n\n\ncd \ne", c, false, "ab\n!2", "\n!0", "\n!0", "cd \n!2", "e!1")
	}
	r := made(t, rich())
	lays(t, r, "a\r\n\r\nb\r\r\n", way(3), false, "a\r\n!1", "\r\n!0", "b\r!1", "\r\n!0")
}

// P20.3, P4, P5: no row ends where nothing may be done but by Cut, and is too wide only as one cluster.
func TestCuts(t *testing.T) {
	b := made(t, rich())
	lays(t, b, "abcdefg", way(3), false, "abc/3", "def/3", "g!1")
	lays(t, b, "ab cdefg hi", way(3), false, "ab |2", "cde/3", "fg |2", "hi!2")
	lays(t, b, "\u65e5\u672c", way(1), false, "\u65e5|2", "\u672c!2")
	lays(t, b, "a\u0301\u65e5\u0301b", way(1), false, "a\u0301|1", "\u65e5\u0301|2", "b!1")
	lays(t, b, "\u65e5 -x", way(1), false, "\u65e5/2", " |0", "-/1", "x!1")
	lays(t, b, "a\t\tb", api.Config{Width: 3, Tab: 4}, false, "a/1", "\t/4", "\t|4", "b!1")
	lays(t, b, "a\t\tb", api.Config{Width: 8, Tab: 4}, false, "a\t\t|8", "b!1")
}

// P20.3, P5: where a word is cut, the hyphen's cell counts.
func TestHyphens(t *testing.T) {
	b := made(t, rich())
	lays(t, b, "a hyphen", way(5), false, "a hy-5", "phen!4")
	lays(t, b, "a hyphen", way(4), false, "a |1", "hy-3", "phen!4")
	lays(t, b, "a hyphen", way(3), false, "a |1", "hy-3", "phe/3", "n!1")
	lays(t, b, "a hyphen", way(2), false, "a |1", "hy/2", "ph/2", "en!2")
	// By a word of a cut one ahead of a gap: 200 and the hyphen's price. Without: 656200.
	c := best(9, math.Inf(1))
	for price, whole := range map[int]bool{0: false, 655999: false, 656000: true, 656001: true, api.MaxCost: true} {
		c.Hyphen = price
		if whole {
			lays(t, b, "a b c hyphen d", c, false, "a b c |5", "hyphen d!8")
		} else {
			lays(t, b, "a b c hyphen d", c, false, "a b c hy-9", "phen d!6")
		}
	}
}

// P20.3, P6: of rows that cost the same the ends are least, from the first one on.
func TestLikeCosts(t *testing.T) {
	b := made(t, rich())
	lays(t, b, "aa hyphen bb", best(6, math.Inf(1)), false, "aa |2", "hyphen |6", "bb!2")
	lays(t, made(t, simple()), "a b c", best(3, 2), false, "a b |3", "c!1")
	lays(t, made(t, simple()), "aa bb c", best(4, math.Inf(1)), false, "aa |2", "bb c!4")
}

// P20.3, P15.1: a hyphen behind a hyphen costs more.
func TestPairs(t *testing.T) {
	d := simple()
	d.Letters = []api.Range{{Lo: 'a', Hi: 'z', To: 'a'}}
	d.Patterns = "1a"
	d.Left, d.Right = 1, 1
	b := made(t, d)
	// With two hyphens in a row 300 and the pair's price; with one 120609.
	c := best(9, 2)
	for price, apart := range map[int]bool{0: false, 120308: false, 120309: true, api.MaxCost: true} {
		c.Pair = price
		if apart {
			lays(t, b, "x x xx bab x x bab cc", c, false, "x x xx b-9", "ab x x |6", "bab cc!6")
		} else {
			lays(t, b, "x x xx bab x x bab cc", c, false, "x x xx b-9", "ab x x b-9", "ab cc!5")
		}
	}
}

// P20.3, P6: in mode Best what lines cost in sum is least; a part that has no such lines is as in mode First, the other parts aren't.
func TestBest(t *testing.T) {
	b := made(t, simple())
	const words = "aaa bbb c dddd eeeeeeeee"
	lays(t, b, words, way(9), false, "aaa bbb c |9", "dddd |4", "eeeeeeeee!9")
	lays(t, b, words, best(9, math.NaN()), false, "aaa bbb |7", "c dddd |6", "eeeeeeeee!9")
	lays(t, b, words, best(9, 2), true, "aaa bbb c |9", "dddd |4", "eeeeeeeee!9")
	lays(t, b, words+"\nff", best(9, 3), false, "aaa bbb |7", "c dddd |6", "eeeeeeeee\n!9", "ff!2")
	lays(t, b, "tttttttttt\n"+words, best(9, 3), true, "ttttttttt/9", "t\n!1", "aaa bbb |7", "c dddd |6", "eeeeeeeee!9")
	lays(t, b, words+"\ntttttttttt", best(9, 3), true, "aaa bbb |7", "c dddd |6", "eeeeeeeee\n!9", "ttttttttt/9", "t!1")
}

// P20.3, P13.2: Tab is how far apart the tabs are.
func TestTabs(t *testing.T) {
	b := made(t, rich())
	for tab, want := range map[int]string{1: "a\tb!3", 2: "a\tb!3", 4: "a\tb!5", 64: "a\tb!65"} {
		lays(t, b, "a\tb", api.Config{Width: 80, Tab: tab}, false, want)
	}
}
