package desk_test

import (
	"math"
	"slices"
	"strings"
	"testing"

	"stanza/api"
	"stanza/desk"
)

const stepsText = "a hyphen\tb not \u65e5\u672c a\u0301\r\n\n<a table>\tc d\nhyphyphyp"

// each runs a script of each of some steps, behind some others, as many at once as there is room for; it answers the answers of all of them.
func each(t *testing.T, c api.Config, text string, ahead, steps []desk.Step) []desk.Answer {
	t.Helper()
	var l []desk.Answer
	for some := range slices.Chunk(steps, api.MaxSteps-len(ahead)) {
		l = append(l, run(t, rich(), c, text, slices.Concat(ahead, some)...)[len(ahead):]...)
	}
	return l
}

// stays holds answers to steps that are refused: the error, and beside it the layout alone, as it was.
func stays(t *testing.T, had api.Layout, l []desk.Answer, want api.Errno) {
	t.Helper()
	for i, a := range l {
		if !same(a, desk.Answer{Err: want, Layout: had}) {
			t.Errorf("P23.1, P8, R3, R4: step %d: %v, want error %d, %v", i, a, want, had)
		}
	}
}

// layout is that of a text.
func layout(t *testing.T, c api.Config, text string) api.Layout {
	t.Helper()
	return run(t, rich(), c, text, edits(0, 0, ""))[0].Layout
}

// ways are some, in both modes.
func ways() []api.Config {
	return []api.Config{way(1), way(4), way(9), best(5, 1), best(12, math.NaN()), {Width: 6, Tab: 3, Mode: api.Best, Hyphen: 50, Pair: 900, Loose: 5}}
}

// P23.1: each of edit.Splice's errors: At, Del and both beyond the text, and Ins beyond what may be; and which comes first.
func TestEditsRefused(t *testing.T) {
	for _, c := range ways() {
		for _, text := range []string{"", "a", stepsText} {
			n, had := len(text), layout(t, c, text)
			var wrong []desk.Step
			for _, ins := range []string{"", "x\n", strings.Repeat("a", api.MaxText+1)} {
				for _, at := range []int{math.MinInt, -1, n + 1, math.MaxInt} {
					wrong = append(wrong, edits(at, 0, ins), edits(at, n, ins), edits(at, math.MaxInt, ins), edits(at, -1, ins))
				}
				for _, del := range []int{math.MinInt, -1, n + 1, math.MaxInt} {
					wrong = append(wrong, edits(0, del, ins), edits(n, max(del, -1), ins), edits(n/2, del, ins))
				}
				for at := range n + 1 {
					wrong = append(wrong, edits(at, n-at+1, ins))
				}
			}
			stays(t, had, each(t, c, text, nil, wrong), api.ErrEdit)
			long := []desk.Step{edits(0, n, strings.Repeat("a", api.MaxText+1)), edits(n, 0, strings.Repeat("\n", api.MaxText-n+1)), edits(0, 0, strings.Repeat("a", 3*api.MaxText))}
			stays(t, had, each(t, c, text, nil, long), api.ErrText)
		}
	}
}

// P23.1, P8: changes of all kinds at each place of a text; behind each one the text is what it was.
func TestEdits(t *testing.T) {
	for _, c := range ways()[2:4] {
		had := layout(t, c, stepsText)
		for at := range len(stepsText) + 1 {
			var steps []desk.Step
			for _, ins := range []string{"", "\n", "#", "<", "a", "\u0301", " ", "\xff", "table"} {
				for _, del := range []int{0, 1, 4} {
					del = min(del, len(stepsText)-at)
					steps = append(steps, edits(at, del, ins), edits(at, len(ins), stepsText[at:at+del]))
				}
			}
			for i, a := range run(t, rich(), c, stepsText, steps...) {
				if a.Err != api.OK || i%2 == 1 && !same(a, desk.Answer{Layout: had}) {
					t.Fatalf("P23.1: step %d at %d: %v, want %v", i, at, a, had)
				}
			}
		}
	}
}

// P23.1: changes that join parts, split them, and lean on one another, by rows.
func TestEditsByRows(t *testing.T) {
	l := run(t, rich(), way(4), "ab\ncd\ref", edits(2, 1, ""), edits(4, 1, "\n"), edits(1, 0, " #"), edits(8, 0, " g"), edits(2, 1, "<"), edits(7, 0, ">"), edits(0, 11, ""), edits(0, 0, "a table"))
	for i, want := range []answer{
		{text: "abcd\ref", rows: []string{"abcd\r/4", "ef!2"}},
		{text: "abcd\nef", rows: []string{"abcd\n!4", "ef!2"}},
		{text: "a #bcd\nef", rows: []string{"a |1", "#bcd\n!4", "ef!2"}},
		{text: "a #bcd\ne gf", rows: []string{"a |1", "#bcd\n!4", "e !1", "gf!2"}},
		{text: "a <bcd\ne gf", rows: []string{"a <bcd\ne gf!3"}},
		{text: "a <bcd\n>e gf", rows: []string{"a <bcd\n>e |4", "gf!2"}},
		{text: "f", rows: []string{"f!1"}},
		{text: "a tablef", rows: []string{"a |1", "tabl/4", "ef!2"}},
	} {
		is(t, l[i], want)
	}
}

// P23.1: ways that are none.
func TestTurnsRefused(t *testing.T) {
	var wrong []desk.Step
	for _, c := range wrongWays() {
		wrong = append(wrong, turns(c))
	}
	for _, c := range ways() {
		for _, text := range []string{"", stepsText} {
			stays(t, layout(t, c, text), each(t, c, text, nil, wrong), api.ErrConfig)
			stays(t, layout(t, way(2), text+"b"), each(t, c, text, []desk.Step{turns(way(2)), edits(len(text), 0, "b")}, wrong), api.ErrConfig)
		}
	}
}

// P23.1, P8: each way to each other one, and back.
func TestTurns(t *testing.T) {
	all := append(edgeWays(), ways()...)
	for _, c := range all {
		had := layout(t, c, stepsText)
		var steps []desk.Step
		for _, other := range all {
			steps = append(steps, turns(other), turns(c))
		}
		for i, a := range each(t, c, stepsText, nil, steps) {
			if want := layout(t, all[i/2], stepsText); i%2 == 1 && !same(a, desk.Answer{Layout: had}) || i%2 == 0 && !same(a, desk.Answer{Layout: want}) {
				t.Fatalf("P23.1: from %v to %v: %v", c, all[i/2], a)
			}
		}
	}
}

// P23.1: each field of a way by itself makes another layout of some text, and back.
func TestFieldsOfWays(t *testing.T) {
	for _, field := range []struct {
		text   string
		width  int
		change func(c *api.Config)
	}{
		{"a table b", 9, func(c *api.Config) { c.Width = 6 }},
		{"a\tb hyphen", 9, func(c *api.Config) { c.Tab = 8 }},
		{"aaa bbb c dddd eeeeeeeee", 9, func(c *api.Config) { c.Mode = api.First }},
		{"a b c hyphen d", 9, func(c *api.Config) { c.Hyphen = api.MaxCost }},
		{"a a a aa hyphenx c c c table b", 15, func(c *api.Config) { c.Pair = 100000 }},
		{"a b c hyphen d", 9, func(c *api.Config) { c.Loose = -1 }},
	} {
		base := api.Config{Width: field.width, Tab: 4, Mode: api.Best, Loose: 20}
		c := base
		field.change(&c)
		l := run(t, rich(), base, field.text, turns(base), turns(c), turns(c), turns(base))
		if same(l[0], l[1]) || !same(l[1], l[2]) || !same(l[0], l[3]) {
			t.Errorf("P23.1: %q by %v and %v: %v", field.text, base, c, l)
		}
	}
	const text = "a\tb hyphen"
	l := run(t, rich(), api.Config{Width: 9, Tab: 4}, text, turns(api.Config{Width: 20, Tab: 4}), turns(api.Config{Width: 9, Tab: 7}), turns(api.Config{Width: 9, Tab: 4}))
	for i, want := range [][]string{{"a\tb hyphen!12"}, {"a\tb |8", "hyphen!6"}, {"a\tb hy-9", "phen!4"}} {
		is(t, l[i], answer{text: text, rows: want})
	}
}

// changes are none, and some that are right.
func changes() [][]desk.Step {
	return [][]desk.Step{nil, {edits(0, 2, "xy\n"), turns(best(7, 2)), edits(9, 9, "")}}
}

// behind is the layout behind some changes of stepsText.
func behind(t *testing.T, c api.Config, ahead []desk.Step) api.Layout {
	t.Helper()
	return each(t, c, stepsText, ahead, []desk.Step{edits(0, 0, "")})[0].Layout
}

// P23.1: the spot of each byte of a text, and of places that aren't there, with Back and without, as it is and changed.
func TestSpots(t *testing.T) {
	for _, c := range ways() {
		for _, ahead := range changes() {
			had := behind(t, c, ahead)
			n := had.Rows[len(had.Rows)-1].To
			var right, wrong []desk.Step
			for _, back := range []bool{false, true} {
				for at := range n + 1 {
					right = append(right, asksSpot(at, back))
				}
				for _, at := range []int{math.MinInt, -2, -1, n + 1, n + 2, math.MaxInt} {
					wrong = append(wrong, asksSpot(at, back))
				}
			}
			for i, a := range each(t, c, stepsText, ahead, right) {
				if !same(a, desk.Answer{Spot: a.Spot, Layout: had}) {
					t.Fatalf("P23.1, R3: %v by %v: %v", right[i], c, a)
				}
			}
			stays(t, had, each(t, c, stepsText, ahead, wrong), api.ErrRange)
		}
	}
}

// P23.1: spots by numbers, also those of bytes within clusters.
func TestSpotsByNumbers(t *testing.T) {
	// a and what stays with it; a Tab; b; a Space: then two wide signs.
	l := run(t, rich(), way(6), "a\u0301\tb \u65e5\u672c", turns(api.Config{Width: 6, Tab: 4}),
		asksSpot(0, false), asksSpot(2, false), asksSpot(3, false), asksSpot(4, false), asksSpot(5, true), asksSpot(6, false), asksSpot(6, true), asksSpot(8, true), asksSpot(9, false), asksSpot(9, true), asksSpot(12, false))
	for i, want := range []api.Spot{{}, {Row: 0, Col: 0}, {Row: 0, Col: 0}, {Row: 0, Col: 1}, {Row: 0, Col: 4}, {Row: 0, Col: 5}, {Row: 1, Col: 0}, {Row: 0, Col: 6}, {Row: 0, Col: 6}, {Row: 1, Col: 2}, {Row: 1, Col: 2}, {Row: 1, Col: 4}} {
		is(t, l[i], answer{spot: want, text: "a\u0301\tb \u65e5\u672c", rows: []string{"a\u0301\tb |5", "\u65e5\u672c!4"}})
	}
}

// P23.1: the place of each column of each row, and of spots that aren't there, as it is and changed.
func TestBytes(t *testing.T) {
	for _, c := range ways() {
		for _, ahead := range changes() {
			had := behind(t, c, ahead)
			var right, wrong []desk.Step
			for row := range had.Rows {
				for _, col := range []int{0, 1, 2, 3, 4, 5, 8, 9, 17, api.MaxWidth, math.MaxInt} {
					right = append(right, asksByte(row, col))
				}
				wrong = append(wrong, asksByte(row, -1), asksByte(row, math.MinInt))
			}
			for _, row := range []int{math.MinInt, -1, len(had.Rows), math.MaxInt} {
				wrong = append(wrong, asksByte(row, 0), asksByte(row, 3), asksByte(row, -1))
			}
			for i, a := range each(t, c, stepsText, ahead, right) {
				row := had.Rows[right[i].Spot.Row]
				if a.At < row.From || a.At > row.To || !same(a, desk.Answer{At: a.At, Layout: had}) {
					t.Fatalf("P23.1, R3: %v by %v: %v", right[i], c, a)
				}
			}
			stays(t, had, each(t, c, stepsText, ahead, wrong), api.ErrRange)
		}
	}
}

// P23.1: places by numbers.
func TestBytesByNumbers(t *testing.T) {
	l := run(t, rich(), api.Config{Width: 6, Tab: 4}, "a\u0301\tb \u65e5\u672c", asksByte(0, 0), asksByte(0, 1), asksByte(0, 3), asksByte(0, 4), asksByte(0, 6), asksByte(0, 99), asksByte(1, 0), asksByte(1, 1), asksByte(1, 3), asksByte(1, 4))
	for i, want := range []int{0, 3, 3, 4, 6, 6, 6, 6, 9, 12} {
		is(t, l[i], answer{at: want, text: "a\u0301\tb \u65e5\u672c", rows: []string{"a\u0301\tb |5", "\u65e5\u672c!4"}})
	}
}

// crowded is a step whose other fields hold something, too.
func crowded(s, other desk.Step) desk.Step {
	do := s.Do
	if do != 0 {
		s.Edit = other.Edit
	}
	if do != 1 {
		s.Config = other.Config
	}
	if do != 2 {
		s.At, s.Back = other.At, other.Back
	}
	if do != 3 {
		s.Spot = other.Spot
	}
	return s
}

// P23.1: fields that a step's Do doesn't ask are passed over, whether they would be refused or not.
func TestOtherFields(t *testing.T) {
	others := []desk.Step{
		{Edit: api.Edit{At: 1, Del: 2, Ins: []byte("x\n")}, Config: best(3, 1), At: 4, Back: true, Spot: api.Spot{Row: 1, Col: 1}},
		{Edit: api.Edit{At: -1, Del: -1, Ins: make([]byte, api.MaxText+1)}, Config: api.Config{Width: -1, Mode: 9}, At: -1, Spot: api.Spot{Row: -1, Col: -1}},
		{Edit: api.Edit{At: math.MaxInt, Del: math.MaxInt}, Config: api.Config{Width: math.MaxInt, Tab: math.MaxInt, Hyphen: math.MinInt, Loose: math.NaN()}, At: math.MaxInt, Back: true, Spot: api.Spot{Row: math.MaxInt, Col: math.MaxInt}},
	}
	plain := []desk.Step{edits(3, 1, "b\nc"), asksSpot(4, false), asksSpot(5, true), asksByte(1, 1), turns(way(3)), turns(way(0)), asksByte(2, 0), edits(90, 1, ""), asksSpot(90, false), asksByte(90, 0), edits(0, 5, "")}
	for _, c := range ways() {
		want := run(t, rich(), c, stepsText, plain...)
		for _, other := range others {
			var steps []desk.Step
			for _, s := range plain {
				steps = append(steps, crowded(s, other))
			}
			if got := run(t, rich(), c, stepsText, steps...); !alike(got, want) {
				t.Errorf("P23.1: other fields %v: %v, want %v", other, got, want)
			}
		}
	}
}
