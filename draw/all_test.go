package draw_test

import (
	"slices"
	"testing"

	"stanza/api"
	"stanza/draw"
	"stanza/lines"
	"stanza/span"
)

// allOf holds All of some lines against Row of each of them, and answers it.
func allOf(t *testing.T, text []byte, p api.Para, l []api.Line, c api.Config, full bool) [][]byte {
	t.Helper()
	got := draw.All(text, p, l, c, full)
	var want [][]byte
	for _, line := range l {
		want = append(want, draw.Row(text, p, line, c, full))
	}
	if !equal(got, want) {
		t.Fatalf("P22.1: All of %v by %v, filled %v: %q, want %q: %q, %v", l, c, full, got, want, text, p)
	}
	return got
}

// alls holds All of all lines of a text by a way, as they are.
func alls(t *testing.T, told string, c api.Config, want ...string) {
	t.Helper()
	text, p := read(told)
	right(t, text, p, c)
	l, _ := lines.Break(p, c)
	var got []string
	for _, row := range allOf(t, text, p, l, c, false) {
		got = append(got, string(row))
	}
	var wanted []string
	for _, row := range want {
		wanted = append(wanted, seen(row))
	}
	if !slices.Equal(got, wanted) {
		t.Errorf("P22.1: All of %q by %v: %q, want %q", told, c, got, wanted)
	}
	allOf(t, text, p, l, c, true)
}

// P22.1, R5: of no lines no rows, whether they are nil or an empty list, and whether or not the text has clusters.
func TestAllOfNoLines(t *testing.T) {
	room := []api.Line{{To: 1, Cells: 1, End: api.Must}}
	for _, told := range []string{"", "a", " ", "a b |c"} {
		text, p := read(told)
		for _, l := range [][]api.Line{nil, {}, room[:0]} {
			for _, full := range []bool{false, true} {
				if got := draw.All(text, p, l, way(3), full); len(got) != 0 {
					t.Errorf("P22.1: %q of no lines of %q", got, told)
				}
			}
		}
	}
}

// P22.1: lines of all parts of a text, of one line and of many; lines of which nothing is seen have a row, too.
func TestAllOfParts(t *testing.T) {
	alls(t, "a", way(3), "a")
	alls(t, " ", way(3), "")
	alls(t, "a b |c d!eeee fW!N!t ", way(4), "a b", "c d", "eeee", "fW", "", "    ")
	alls(t, "a b |c W-EE!N!  !?t0", way(5), "a b", "c W-", "EE", "", "", "?   ")
	alls(t, "a b |c W-EE!N!  !?t0", way(1), "a", "b", "c", "W", "E", "E", "", "", "?", "    ", "")
	alls(t, "aaa |bbb |c |dddd |eeeeeeeee", best(way(9)), "aaa bbb", "c dddd", "eeeeeeeee")
}

// P22.1: All filled: the parts' last lines, and cut ones, stay as they are.
func TestAllFilled(t *testing.T) {
	text, p := read("a b |c d!eeee f |g-WWW!h i")
	c := way(6)
	l, _ := lines.Break(p, c)
	want := [][]byte{[]byte("a    b"), []byte("c d"), []byte("eeee f"), []byte("g-"), []byte(seen("WWW")), []byte("h i")}
	if got := allOf(t, text, p, l, c, true); !equal(got, want) {
		t.Errorf("P22.1: %q, want %q", got, want)
	}
	if got := allOf(t, text, p, l, c, false); string(got[0]) != "a b" {
		t.Errorf("P22.1: %q", got)
	}
}

// P22.1: lines as they are handed in: some of a text's, in any order, one of them twice, one within another.
func TestAllOfAnyLines(t *testing.T) {
	text, p := read("a b |c W-EE!N!  !?t0")
	c := way(7)
	made := func(from, to int, end api.Opp) api.Line { return span.Make(p, from, to, end, c.Tab) }
	l := []api.Line{made(9, 10, api.Must), made(0, 3, api.May), made(4, 8, api.Hyphen), made(0, 3, api.May), made(2, 7, api.May), made(5, 5, api.Hyphen)}
	want := [][]byte{nil, []byte("a     b"), []byte(seen("c  WE-")), []byte("a     b"), []byte(seen("b c  W")), []byte("-")}
	if got := allOf(t, text, p, l, c, true); !equal(got, want) {
		t.Errorf("P22.1: %q, want %q", got, want)
	}
	want = [][]byte{nil, []byte("a b"), []byte(seen("c WE-")), []byte("a b"), []byte(seen("b c W")), []byte("-")}
	if got := allOf(t, text, p, l, c, false); !equal(got, want) {
		t.Errorf("P22.1: %q, want %q", got, want)
	}
	slices.Reverse(l)
	slices.Reverse(want)
	if got := allOf(t, text, p, l, c, false); !equal(got, want) {
		t.Errorf("P22.1: %q, want %q", got, want)
	}
}
