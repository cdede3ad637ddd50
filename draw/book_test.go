package draw_test

import (
	"strings"
	"testing"

	"stanza/api"
	"stanza/book"
	"stanza/draw"
	"stanza/lines"
)

// The tests of this file draw texts whose clusters come from their bytes.

// data is that which README.md tells of book, with marks and wide signs beside it.
func data() api.Data {
	return api.Data{
		Marks:      []api.Range{{Lo: 0x300, Hi: 0x36f, To: 1}},
		Breaks:     []api.Range{{Lo: 10, Hi: 10, To: 2}, {Lo: 32, Hi: 32, To: 1}},
		Cells:      []api.Range{{Lo: 32, Hi: 126, To: 1}, {Lo: 0x4e00, Hi: 0x9fff, To: 2}, {Lo: api.Bad, Hi: api.Bad, To: 1}},
		Letters:    []api.Range{{Lo: 'A', Hi: 'Z', To: 'a'}, {Lo: 'a', Hi: 'z', To: 'a'}},
		MarkRules:  "class O M; keep . / M; may . / .;",
		BreakRules: "class O S N; keep S / S; may S / .; must N / .; keep . / .;",
		Patterns:   "hy1p ta-ble",
		Left:       2, Right: 2,
	}
}

// laid is a text's clusters and lines.
func laid(t *testing.T, text string, c api.Config) (api.Para, []api.Line) {
	t.Helper()
	b, f := book.New(data())
	if f.Code != api.OK {
		t.Fatalf("fault %v", f)
	}
	p, e := b.Para([]byte(text))
	if e != api.OK {
		t.Fatalf("error %d", e)
	}
	right(t, []byte(text), p, c)
	l, _ := lines.Break(p, c)
	return p, l
}

// shows holds All of a text of bytes, the rows told with | between them: as they are, then filled.
func shows(t *testing.T, text string, c api.Config, want, filled string) {
	t.Helper()
	p, l := laid(t, text, c)
	for full, told := range map[bool]string{false: want, true: filled} {
		var got []string
		for _, row := range draw.All([]byte(text), p, l, c, full) {
			got = append(got, string(row))
		}
		if strings.Join(got, "|") != told {
			t.Errorf("P22.1: %q by %v, filled %v: %q, want %q", text, c, full, got, told)
		}
	}
}

// What README.md tells.
func TestReadme(t *testing.T) {
	c := api.Config{Width: 8, Tab: 4}
	shows(t, "A b table\n\tb", c, "A b ta-|ble|    b", "A b  ta-|ble|    b")
	text := []byte("A b table\n\tb")
	p, l := laid(t, string(text), c)
	if got := string(draw.Row(text, p, l[0], c, false)); got != "A b ta-" {
		t.Errorf("P22.1: %q", got)
	}
	if got := string(draw.Row(text, p, l[0], c, true)); got != "A b  ta-" {
		t.Errorf("P22.1: %q", got)
	}
}

// P22.1: signs of many bytes, wide ones, such as stay with what is ahead, bytes that are no sign, and ends of lines, which have no cells.
func TestShows(t *testing.T) {
	shows(t, "", way(5), "", "")
	shows(t, "\n", way(5), "", "")
	shows(t, "a b\n\n c\n", way(5), "a b|| c", "a b|| c")
	shows(t, "\u65e5 \u672c \u65e5\u672c", way(6), "\u65e5 \u672c|\u65e5\u672c", "\u65e5  \u672c|\u65e5\u672c")
	shows(t, "e\u0301 e\u0301\u0302 ee", way(4), "e\u0301 e\u0301\u0302|ee", "e\u0301  e\u0301\u0302|ee")
	shows(t, "a\xff \xf0\x9fb cccc", way(7), "a\xff \xf0\x9fb|cccc", "a\xff   \xf0\x9fb|cccc")
	shows(t, "the hyphen, a table", way(8), "the hy-|phen, a|table", "the  hy-|phen,  a|table")
	shows(t, "the hyphen, a table", way(3), "the|hy-|phe|n,|a|ta-|ble", "the|hy-|phe|n,|a|ta-|ble")
	shows(t, "\ta b\n\t\u0301c", way(9), "    a b|\t\u0301c", "    a b|\t\u0301c")
}

// P22.1: many texts of bytes, by many ways.
func TestShowsAgainstSlow(t *testing.T) {
	d := dice(9)
	parts := []string{"a", "bc ", "def ", " ", "hyphen ", "table, ", "\t", "\n", "\u65e5\u672c", "e\u0301", "\u0301", "\xff", "\xf0\x9f", "-", " - "}
	for range 1500 {
		var b strings.Builder
		for range d.roll(30) {
			b.WriteString(parts[d.roll(len(parts))])
		}
		c := d.way()
		p, _ := laid(t, b.String(), c)
		hold(t, []byte(b.String()), p, c)
	}
}
