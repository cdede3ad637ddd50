package desk_test

import (
	"math"
	"strconv"
	"strings"
	"testing"

	"stanza/api"
	"stanza/desk"
)

var ints = []int{math.MinInt, math.MinInt + 1, -4096, -1, 0, 1, 2, 5, 4096, 4097, math.MaxInt - 1, math.MaxInt}

// P1: every int in every field.
func TestAllNumbers(t *testing.T) {
	for _, c := range []api.Config{way(4), best(4, 1)} {
		for _, text := range []string{"", "ab\tcd\n\u65e5 hyphen"} {
			for _, a := range ints {
				var steps []desk.Step
				for _, b := range ints {
					steps = append(steps, edits(a, b, "x\n"), asksByte(a, b), turns(api.Config{Width: a, Tab: b, Mode: 1}), turns(api.Config{Width: 3, Tab: 8, Hyphen: a, Pair: b}))
				}
				steps = append(steps, asksSpot(a, false), asksSpot(a, true))
				run(t, rich(), c, text, steps...)
				for _, b := range ints {
					holds(t, rich(), c, text, []desk.Step{{Do: a, At: b}, {Do: b, Spot: api.Spot{Row: a, Col: b}}})
				}
			}
		}
	}
}

// P1: all texts of one byte, and what they become by a byte more.
func TestAllBytes(t *testing.T) {
	for i := range 256 {
		one := string([]byte{byte(i)})
		var steps []desk.Step
		for _, other := range []byte{0, 9, 10, 13, 32, '#', 'a', 0x80, 0xcc, 0xe6, 0xf0, 0xff} {
			steps = append(steps, edits(1, 0, string([]byte{other})), edits(1, 1, ""), edits(0, 0, string([]byte{other})), asksSpot(1, true), edits(0, 1, ""))
		}
		run(t, rich(), way(1), one, steps...)
	}
}

// greatest is data with as much of most as may be: classes, rules, ranges, patterns.
func greatest() api.Data {
	var classes, rules, words strings.Builder
	for c := range api.MaxClasses {
		classes.WriteString(" c" + strconv.Itoa(c))
		rules.WriteString("keep c" + strconv.Itoa(c) + "* / c" + strconv.Itoa(c) + "+;")
	}
	for i := range api.MaxPatterns {
		words.WriteString(string([]byte{'a' + byte(i%16), 'a' + byte(i/16)}) + "1bc" + strconv.Itoa(i%10) + " ")
	}
	l := make([]api.Range, api.MaxRanges)
	for i := range l {
		l[i] = api.Range{Lo: int32(4 * i), Hi: int32(4*i + 2), To: i % 3}
	}
	return api.Data{Marks: l, Breaks: l, Cells: l, Letters: l, MarkRules: "class" + classes.String() + ";", BreakRules: "class" + classes.String() + ";" + rules.String(), Patterns: words.String(), Left: 1, Right: api.MaxLetters}
}

// P1, P8: scripts of as many steps as may be, of texts of as many bytes as may be.
func TestLarge(t *testing.T) {
	d := dice(3)
	for i, script := range []struct {
		data  api.Data
		piece string
		way   api.Config
	}{
		{rich(), "a table hyphen\n", best(30, 5)},
		{rich(), "hyphen ", way(17)},
		{simple(), "a", way(1)},
		{simple(), "\n", best(1, 0)},
		{simple(), "ab cdef ", best(60, math.NaN())},
		{greatest(), "abc\u0102 ", best(9, 1)},
		{greatest(), "\xf0\x9f", way(79)},
	} {
		steps := []desk.Step{edits(0, 1, ""), turns(best(api.MaxWidth, math.NaN())), turns(script.way)}
		for len(steps) < api.MaxSteps {
			at, ins := d.roll(api.MaxText-40), strings.Repeat(script.piece, d.roll(3))
			steps = append(steps, edits(at, len(ins), ins), edits(at, d.roll(3), ""), asksSpot(at, i%2 == 0), asksByte(d.roll(90), at%50), edits(at, 0, script.piece[:1]))
		}
		run(t, script.data, script.way, strings.Repeat(script.piece, api.MaxText)[:api.MaxText], steps[:api.MaxSteps]...)
	}
}

// P21.3: a text that is typed sign by sign, then taken away from its end.
func TestTyped(t *testing.T) {
	const typed = "A hy\u0301phen, table:\n\u65e5\u672c xy"
	for _, c := range []api.Config{way(6), best(7, 3)} {
		var steps []desk.Step
		for i := range len(typed) {
			steps = append(steps, edits(i, 0, typed[i:i+1]))
		}
		for i := range len(typed) {
			steps = append(steps, edits(len(typed)-i-1, 1, ""))
		}
		l := run(t, rich(), c, "", steps...)
		for i := range len(typed) - 1 {
			if !same(l[i], l[len(steps)-i-2]) {
				t.Errorf("P8: %q by %v: %v, want %v", typed[:i+1], c, l[len(steps)-i-2], l[i])
			}
		}
	}
}
