package desk_test

import (
	"slices"
	"strings"
	"testing"

	"stanza/api"
	"stanza/desk"
)

// The chapter's example: a step that is refused: its error, and the layout as it was; by chapter 20's and 21's text.
func TestExamples(t *testing.T) {
	const text, after = "ab cd\ne", "abcd\ne"
	had, rows := []string{"ab |2", "cd\n!2", "e!1"}, []string{"abc/3", "d\n!1", "e!1"}
	l := run(t, simple(), way(3), text, edits(9, 0, ""), edits(2, 1, ""), edits(9, 0, ""), turns(api.Config{}), asksSpot(9, false), asksByte(3, 0))
	is(t, l[0], answer{err: api.ErrEdit, text: text, rows: had})
	is(t, l[1], answer{text: after, rows: rows})
	is(t, l[2], answer{err: api.ErrEdit, text: after, rows: rows})
	is(t, l[3], answer{err: api.ErrConfig, text: after, rows: rows})
	is(t, l[4], answer{err: api.ErrRange, text: after, rows: rows})
	is(t, l[5], answer{err: api.ErrRange, text: after, rows: rows})
	want := []api.Row{{From: 0, To: 3, Cells: 3, End: api.Cut}, {From: 3, To: 5, Cells: 1, End: api.Must}, {From: 5, To: 6, Cells: 1, End: api.Must}}
	if !slices.Equal(l[1].Layout.Rows, want) {
		t.Errorf("P23.1: %v", l[1].Layout)
	}
}

// TestReadme holds what README.md tells of desk.
func TestReadme(t *testing.T) {
	d := simple()
	d.Letters, d.Patterns = []api.Range{{Lo: 'A', Hi: 'Z', To: 'a'}, {Lo: 'a', Hi: 'z', To: 'a'}}, "hy1p ta-ble"
	c := way(5)
	narrow := c
	narrow.Width = 3
	l := run(t, d, c, "a table",
		desk.Step{Do: 0, Edit: api.Edit{At: 0, Del: 2}},
		desk.Step{Do: 0, Edit: api.Edit{At: 9}},
		desk.Step{Do: 1, Config: narrow},
		desk.Step{Do: 2, At: 2, Back: true},
		desk.Step{Do: 3, Spot: api.Spot{Row: 1, Col: 2}})
	rows := []string{"ta-3", "ble!3"}
	is(t, l[0], answer{text: "table", rows: []string{"table!5"}})
	is(t, l[1], answer{err: api.ErrEdit, text: "table", rows: []string{"table!5"}})
	is(t, l[2], answer{text: "table", rows: rows})
	is(t, l[3], answer{spot: api.Spot{Row: 0, Col: 2}, text: "table", rows: rows})
	is(t, l[4], answer{at: 4, text: "table", rows: rows})
	refused(t, "a step that is none", d, c, []byte("a table"), []desk.Step{{Do: 2}, {Do: 7}}, api.Fault{Code: api.ErrScript, At: 1})
	refused(t, "65 steps", d, c, nil, make([]desk.Step, 65), api.Fault{Code: api.ErrScript, At: 64})
}

// P23.1: each Do by itself, with the layout as it is behind it.
func TestEachDo(t *testing.T) {
	const text, after = "a table b", "a hyphen b"
	had, rows, wide := []string{"a ta-5", "ble b!5"}, []string{"a hy-5", "phen |4", "b!1"}, []string{"a hyphen |8", "b!1"}
	l := run(t, rich(), way(5), text, asksSpot(5, false), edits(2, 5, "hyphen"), asksSpot(5, false), turns(way(9)), asksSpot(5, false), asksByte(1, 0), turns(way(5)), asksByte(1, 0))
	is(t, l[0], answer{spot: api.Spot{Row: 1, Col: 1}, text: text, rows: had})
	is(t, l[1], answer{text: after, rows: rows})
	is(t, l[2], answer{spot: api.Spot{Row: 1, Col: 1}, text: after, rows: rows})
	is(t, l[3], answer{text: after, rows: wide})
	is(t, l[4], answer{spot: api.Spot{Row: 0, Col: 5}, text: after, rows: wide})
	is(t, l[5], answer{at: 9, text: after, rows: wide})
	is(t, l[6], answer{text: after, rows: rows})
	is(t, l[7], answer{at: 4, text: after, rows: rows})
}

// P23.1, P6: a layout is told loose as long as it is.
func TestLoose(t *testing.T) {
	l := run(t, rich(), best(3, 1), "hyphen a", asksSpot(0, false), turns(way(3)), turns(best(3, 1)), edits(0, 5, ""), edits(2, 0, "abcd"), edits(-1, 0, ""), asksByte(0, 0))
	for i, loose := range []bool{true, false, true, false, true, true, true} {
		if l[i].Layout.Loose != loose {
			t.Errorf("P23.1: behind step %d: %v", i, l[i])
		}
	}
	if got := told("hyphen a", l[0].Layout.Rows); !slices.Equal(got, []string{"hy-3", "phe/3", "n a!3"}) {
		t.Errorf("P23.1: %q", got)
	}
}

// P23.1: no steps have no answers, and no fault.
func TestNoSteps(t *testing.T) {
	for _, d := range []api.Data{simple(), rich()} {
		for _, c := range edgeWays() {
			for _, text := range []string{"", "ab cd\ne", strings.Repeat("\xff", api.MaxText)} {
				run(t, d, c, text)
			}
		}
	}
}

// P23.1: as many steps as may be, and one more, of each Do.
func TestManySteps(t *testing.T) {
	for _, s := range []desk.Step{edits(0, 0, "a b"), edits(0, 1, ""), edits(-1, 0, ""), turns(way(2)), turns(way(0)), asksSpot(1, true), asksByte(0, 1), asksByte(-1, 0)} {
		steps := slices.Repeat([]desk.Step{s}, api.MaxSteps+1)
		run(t, rich(), way(5), "ab cd\ne", steps[:api.MaxSteps]...)
		refused(t, "65 steps", rich(), way(5), []byte("ab cd\ne"), steps, api.Fault{Code: api.ErrScript, At: 64})
	}
	refused(t, "many steps", rich(), way(5), nil, make([]desk.Step, 5000), api.Fault{Code: api.ErrScript, At: 64})
	l := run(t, simple(), way(3), "", slices.Repeat([]desk.Step{edits(0, 0, "a")}, api.MaxSteps)...)
	for i, a := range l {
		if rows := a.Layout.Rows; len(rows) != i/3+1 || rows[len(rows)-1].To != i+1 {
			t.Errorf("P23.1: behind step %d: %v", i, rows)
		}
	}
}

// P23.1: of no text there is one row of nothing; it grows, and goes again.
func TestNoText(t *testing.T) {
	none := []string{"!0"}
	for _, text := range [][]byte{nil, {}, []byte("abc")[:0]} {
		steps := []desk.Step{asksSpot(0, true), asksByte(0, 9), edits(0, 0, "ab c"), edits(0, 4, ""), asksSpot(1, false), edits(0, 1, "")}
		l, f := desk.Run(simple(), way(3), text, steps)
		if f != (api.Fault{}) || !alike(l, run(t, simple(), way(3), "", steps...)) {
			t.Fatalf("P23.1: %v, fault %v", l, f)
		}
		is(t, l[0], answer{rows: none})
		is(t, l[1], answer{rows: none})
		is(t, l[2], answer{text: "ab c", rows: []string{"ab |2", "c!1"}})
		is(t, l[3], answer{rows: none})
		is(t, l[4], answer{err: api.ErrRange, rows: none})
		is(t, l[5], answer{err: api.ErrEdit, rows: none})
	}
}

// P23.1: a text of as many bytes as may be; one more is refused, as the text of the script and as that which comes of a step.
func TestLongestText(t *testing.T) {
	for _, piece := range []string{"a", "\n", "ab cd\n", "\u65e5", "\xff"} {
		text := strings.Repeat(piece, api.MaxText+1)
		last := edits(api.MaxText, 0, "b")
		l := run(t, rich(), way(7), text[:api.MaxText], last, edits(0, 1, ""), edits(0, 0, "b"), edits(5, 0, "b"), asksSpot(api.MaxText, true), asksSpot(api.MaxText+1, true))
		for i, want := range []struct {
			err api.Errno
			to  int
		}{{api.ErrText, 4096}, {api.OK, 4095}, {api.OK, 4096}, {api.ErrText, 4096}, {api.OK, 4096}, {api.ErrRange, 4096}} {
			if rows := l[i].Layout.Rows; l[i].Err != want.err || rows[len(rows)-1].To != want.to {
				t.Errorf("P23.1: %q: step %d: error %d, %d bytes, want %v", piece, i, l[i].Err, rows[len(rows)-1].To, want)
			}
		}
		long := api.Fault{Code: api.ErrText}
		refused(t, "4097 bytes", rich(), way(7), []byte(text[:api.MaxText+1]), []desk.Step{last}, long)
		refused(t, "many bytes", rich(), way(7), []byte(strings.Repeat(text, 9)), nil, long)
	}
}

// P23.1: bytes that are no sign, and that become one.
func TestNoSigns(t *testing.T) {
	l := run(t, rich(), way(2), "\xff\xf0\x9f\x98a\xc3", edits(6, 0, "\xa9"), asksSpot(3, false), edits(4, 0, "\x80"), asksByte(0, 1), edits(0, 2, "\xed\xa0\x80"))
	is(t, l[0], answer{text: "\xff\xf0\x9f\x98a\u00e9", rows: []string{"\xff\xf0\x9f\x98/2", "a\u00e9!2"}})
	is(t, l[1], answer{spot: api.Spot{Row: 0, Col: 1}, text: "\xff\xf0\x9f\x98a\u00e9", rows: []string{"\xff\xf0\x9f\x98/2", "a\u00e9!2"}})
	is(t, l[3], answer{at: 1, text: "\xff\U0001f600a\u00e9", rows: []string{"\xff\U0001f600a/2", "\u00e9!1"}})
	for _, text := range []string{"\x80", "\xf4\x90\x80\x80", "\xed\xa0\x80", "\xc0\xaf", "a\xe6\x97", "\xcc", "\xcc\x81"} {
		for at := range len(text) {
			run(t, rich(), best(3, 0), text, edits(at, 1, ""), edits(at, 0, "\xcc"), edits(at, 1, text), asksSpot(at, false), asksByte(0, at))
		}
	}
}
