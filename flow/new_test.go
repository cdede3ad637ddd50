package flow_test

import (
	"math"
	"slices"
	"strings"
	"testing"

	"stanza/api"
	"stanza/book"
	"stanza/flow"
)

func TestExamples(t *testing.T) {
	x := start(t, made(t, simple()), way(3), "ab cd\ne")
	x.rows(false, "ab |2", "cd\n!2", "e!1")
	x.edit(2, 1, "")
	want := []api.Row{{From: 0, To: 3, Cells: 3, End: api.Cut}, {From: 3, To: 5, Cells: 1, End: api.Must}, {From: 5, To: 6, Cells: 1, End: api.Must}}
	if l := x.flow.Layout(); l.Loose || !slices.Equal(l.Rows, want) {
		t.Errorf("P21.3: %v", l)
	}
}

// TestReadme holds what README says of flow.
func TestReadme(t *testing.T) {
	d := simple()
	d.Letters, d.Patterns = letters(), "ta-ble"
	x := start(t, made(t, d), way(5), "a table\nb")
	x.rows(false, "a ta-5", "ble\n!3", "b!1")
	isSpot(x, 4, false, 1, 0)
	isSpot(x, 4, true, 0, 4)
	isByte(x, 1, 2, 6)
	x.edit(0, 2, "")
	if string(x.flow.Text()) != "table\nb" {
		t.Errorf("README: %q", x.flow.Text())
	}
	x.rows(false, "table\n!5", "b!1")
	x.refuse(put(9, 0, ""), api.ErrEdit)
	x.turn(best(3, 1))
	x.rows(false, "ta-3", "ble\n!3", "b!1")
	x.refuseWay(api.Config{})
}

// isSpot holds a byte's spot.
func isSpot(x *followed, at int, back bool, row, col int) {
	x.Helper()
	if s, e := x.flow.Spot(at, back); e != api.OK || s != (api.Spot{Row: row, Col: col}) {
		x.Errorf("P21.1: %q: Spot of %d, %v: %v, error %d, want %d.%d", x.text, at, back, s, e, row, col)
	}
}

// isByte holds a spot's byte.
func isByte(x *followed, row, col, want int) {
	x.Helper()
	if at, e := x.flow.Byte(api.Spot{Row: row, Col: col}); e != api.OK || at != want {
		x.Errorf("P21.1: %q: Byte of %d.%d: %d, error %d, want %d", x.text, row, col, at, e, want)
	}
}

// P21.1: what was just made, by numbers.
func TestJustMade(t *testing.T) {
	x := start(t, made(t, rich()), api.Config{Width: 6, Tab: 4}, "a\u0301\tb c\r\n\u65e5hyphen")
	x.rows(false, "a\u0301\tb |5", "c\r\n!1", "\u65e5hy-5", "phen!4")
	isSpot(x, 0, false, 0, 0)
	isSpot(x, 2, false, 0, 0)
	isSpot(x, 3, false, 0, 1)
	isSpot(x, 4, false, 0, 4)
	isSpot(x, 6, false, 1, 0)
	isSpot(x, 6, true, 0, 6)
	isSpot(x, 8, false, 1, 1)
	isSpot(x, 9, false, 2, 0)
	isSpot(x, 9, true, 1, 1)
	isSpot(x, 14, false, 3, 0)
	isSpot(x, 14, true, 2, 4)
	isSpot(x, 18, false, 3, 4)
	isByte(x, 0, 2, 3)
	isByte(x, 0, 4, 4)
	isByte(x, 2, 1, 9)
	isByte(x, 3, 99, 18)
	x = start(t, made(t, rich()), best(4, math.NaN()), "hyphen hyphen")
	x.rows(false, "hy-3", "phen |4", "hy-3", "phen!4")
	x = start(t, made(t, rich()), best(3, 1), "hyphen a")
	x.rows(true, "hy-3", "phe/3", "n a!3")
}

// P21.1: of no text there is one row of nothing.
func TestNoText(t *testing.T) {
	for _, d := range []api.Data{simple(), rich(), far()} {
		for _, c := range []api.Config{way(1), best(1, -1), {Width: api.MaxWidth, Tab: api.MaxTab}} {
			for _, text := range [][]byte{nil, {}, []byte("abc")[:0]} {
				f, e := flow.New(made(t, d), c, text)
				if e != api.OK || len(f.Text()) != 0 || !same(f.Layout(), api.Layout{Rows: []api.Row{{End: api.Must}}}) {
					t.Fatalf("P21.1: error %d, %q, %v", e, f.Text(), f.Layout())
				}
				x := &followed{t, f, made(t, d), c, ""}
				x.hold()
				isSpot(x, 0, false, 0, 0)
				isSpot(x, 0, true, 0, 0)
				isByte(x, 0, 7, 0)
			}
		}
	}
}

// P21.1: as many bytes as may be, and one more.
func TestLongestText(t *testing.T) {
	for _, d := range []api.Data{simple(), rich(), far()} {
		b := made(t, d)
		for _, piece := range []string{"a", "\n", "ab cd\n", "\u65e5", "\xff"} {
			text := strings.Repeat(piece, api.MaxText+1)
			start(t, b, way(7), text[:api.MaxText])
			none(t, "4097 bytes", b, way(7), []byte(text[:api.MaxText+1]), api.ErrText)
			none(t, "many bytes", b, best(7, 1), []byte(text), api.ErrText)
		}
	}
}

// P21.1: bytes that are no sign.
func TestNoSigns(t *testing.T) {
	b := made(t, rich())
	x := start(t, b, way(2), "\xff\xfe\xf0\x9f\x98\xe6\x97a\xc3\n\x80")
	x.rows(false, "\xff\xfe/2", "\xf0\x9f\x98\xe6\x97/2", "a\xc3\n!2", "\x80!1")
	isSpot(x, 4, false, 1, 0)
	isSpot(x, 6, false, 1, 1)
	for _, text := range []string{"\x80", "\xf4\x90\x80\x80", "\xed\xa0\x80", "\xc0\xaf", "a\xe6\x97", "\xef\xbf\xbd", "\xcc", "\xcc\x81"} {
		start(t, b, way(1), text)
		start(t, b, best(3, 0), text)
	}
}

// wrongWays are ways that span.Check refuses, one number of each beyond what may be.
func wrongWays() []api.Config {
	var l []api.Config
	beyond := func(change func(c *api.Config)) {
		for _, c := range []api.Config{way(5), best(5, 1)} {
			change(&c)
			l = append(l, c)
		}
	}
	for _, n := range []int{math.MinInt, -1, 0, api.MaxWidth + 1, math.MaxInt} {
		beyond(func(c *api.Config) { c.Width = n })
	}
	for _, n := range []int{math.MinInt, -1, 0, api.MaxTab + 1, math.MaxInt} {
		beyond(func(c *api.Config) { c.Tab = n })
	}
	for _, mode := range []api.Mode{2, 3, 255} {
		beyond(func(c *api.Config) { c.Mode = mode })
	}
	for _, n := range []int{math.MinInt, -1, api.MaxCost + 1, math.MaxInt} {
		beyond(func(c *api.Config) { c.Hyphen = n })
		beyond(func(c *api.Config) { c.Pair = n })
	}
	return append(l, api.Config{})
}

// edgeWays are ways with numbers as small and as great as may be, and any Loose.
func edgeWays() []api.Config {
	l := []api.Config{{Width: 1, Tab: 1}, {Width: api.MaxWidth, Tab: api.MaxTab, Hyphen: api.MaxCost, Pair: api.MaxCost}}
	for _, most := range looses {
		l = append(l, api.Config{Width: 1, Tab: 1, Mode: api.Best, Loose: most}, api.Config{Width: api.MaxWidth, Tab: api.MaxTab, Mode: api.Best, Hyphen: api.MaxCost, Pair: api.MaxCost, Loose: most})
	}
	return l
}

// P21.1, R2: a way that is none is told ahead of a book that is none, and that ahead of a text that is too long.
func TestErrors(t *testing.T) {
	var noBook *book.Book
	b := made(t, rich())
	long, longest := make([]byte, api.MaxText+1), make([]byte, api.MaxText)
	for _, c := range wrongWays() {
		for _, text := range [][]byte{nil, []byte("a b"), longest, long} {
			none(t, "a wrong way", b, c, text, api.ErrConfig)
			none(t, "a wrong way, no book", noBook, c, text, api.ErrConfig)
		}
	}
	for _, c := range edgeWays() {
		none(t, "a long text", b, c, long, api.ErrText)
		for _, text := range [][]byte{nil, []byte("a b"), longest, long} {
			none(t, "no book", noBook, c, text, api.ErrNil)
		}
		start(t, b, c, "ab hyphen\n\tb")
	}
}
