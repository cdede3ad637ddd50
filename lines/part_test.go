package lines_test

import (
	"slices"
	"testing"

	"stanza/api"
	"stanza/best"
	"stanza/first"
	"stanza/lines"
)

const words = "aaa |bbb |c |dddd |eeeeeeeee"

// P16.1: a part of which best.Break tells true: its lines in mode Best, first.Break's in mode First; false.
func TestPartBothModes(t *testing.T) {
	parts(t, words, 0, way(9), false, "aaa bbb |7", "c dddd |6", "eeeeeeeee!9")
	parts(t, words, 0, loose(9, 3), false, "aaa bbb |7", "c dddd |6", "eeeeeeeee!9")
	parts(t, words, 0, longest(way(9)), false, "aaa bbb c |9", "dddd |4", "eeeeeeeee!9")
	parts(t, words, 0, longest(loose(9, 3)), false, "aaa bbb c |9", "dddd |4", "eeeeeeeee!9")
	parts(t, "a b|c-de", 0, hyphens(5, 0, 0), false, "a bc-5", "de!2")
	parts(t, "a b|c-de", 0, hyphens(5, api.MaxCost, 0), false, "a b|3", "cde!3")
	parts(t, "a b|c-de", 0, longest(hyphens(5, api.MaxCost, 0)), false, "a bc-5", "de!2")
	parts(t, "abc|0|def", 0, way(3), false, "abc|3", "0def!3")
	parts(t, "abc|0|def", 0, longest(way(3)), false, "abc0|3", "def!3")
}

// P16.1: a part of which best.Break tells false, for its lines would be too loose: first.Break's lines, and true in mode Best alone.
func TestPartTooLoose(t *testing.T) {
	for _, most := range []float64{2.9, 1, 0, minus0, -1, below} {
		parts(t, words, 0, loose(9, most), true, "aaa bbb c |9", "dddd |4", "eeeeeeeee!9")
		parts(t, words, 0, longest(loose(9, most)), false, "aaa bbb c |9", "dddd |4", "eeeeeeeee!9")
	}
	parts(t, "ab |cd", 0, loose(4, 1e9), true, "ab |2", "cd!2")
	parts(t, "ab |cd", 0, loose(4, infinite), false, "ab |2", "cd!2")
	parts(t, "ab |cd", 0, loose(4, noNumber), false, "ab |2", "cd!2")
	parts(t, "ab |cd", 0, longest(loose(4, 1e9)), false, "ab |2", "cd!2")
	// The lines of mode First may be the same as those that may not be.
	parts(t, "a b |c d |e", 0, loose(4, 1), false, "a b |3", "c d |3", "e!1")
	parts(t, "a b |c d |e", 0, loose(4, 0.9), true, "a b |3", "c d |3", "e!1")
}

// P16.1: one of which best.Break tells false, for something is too wide, at the part's beginning, within it, at its end.
func TestPartTooWide(t *testing.T) {
	for _, told := range []struct {
		text  string
		width int
		want  []string
	}{
		{"abcd|e", 3, []string{"abc/3", "de!2"}},
		{"ab|cdef|gh", 3, []string{"ab|2", "cde/3", "fgh!3"}},
		{"a|bcde", 3, []string{"a|1", "bcd/3", "e!1"}},
		{"abcd", 3, []string{"abc/3", "d!1"}},
		{"W", 1, []string{"W!2"}},
		{"W|a", 1, []string{"W|2", "a!1"}},
		{"a|W", 1, []string{"a|1", "W!2"}},
		{"aW-a", 2, []string{"a/1", "W/2", "a!1"}},
		{"ab-cd", 2, []string{"ab/2", "cd!2"}},
		{"t", 7, []string{"t!8"}},
		{"a|t|a", 7, []string{"a|1", "t|8", "a!1"}},
	} {
		parts(t, told.text, 0, way(told.width), true, told.want...)
		parts(t, told.text, 0, longest(way(told.width)), false, told.want...)
	}
}

// P16.1: a part that begins within the text, and one that begins at any other boundary: what is ahead of it, and behind it, says nothing.
func TestPartWithin(t *testing.T) {
	parts(t, "abcd!ef |gh!ijkl", 0, way(3), true, "abc/3", "d!1")
	parts(t, "abcd!ef |gh!ijkl", 4, way(3), false, "ef |2", "gh!2")
	parts(t, "abcd!ef |gh!ijkl", 9, way(3), true, "ijk/3", "l!1")
	parts(t, "abcd!ef |gh!ijkl", 10, way(3), false, "jkl!3")
	parts(t, "abcd!ef |gh!ijkl", 1, way(3), false, "bcd!3")
	parts(t, "xy!"+words+"!zzzzzzzzzzzz", 2, way(9), false, "aaa bbb |7", "c dddd |6", "eeeeeeeee!9")
	parts(t, "xy!"+words+"!zzzzzzzzzzzz", 2, loose(9, 2), true, "aaa bbb c |9", "dddd |4", "eeeeeeeee!9")
	parts(t, "xy!"+words+"!zzzzzzzzzzzz", 2, longest(way(9)), false, "aaa bbb c |9", "dddd |4", "eeeeeeeee!9")
	// Pair counts where Hyphen stands at the beginning.
	parts(t, "x-a b|c-de", 1, hyphens(5, 0, api.MaxCost), false, "a b|3", "cde!3")
	parts(t, "x|a b|c-de", 1, hyphens(5, 0, api.MaxCost), false, "a bc-5", "de!2")
}

// P16.1: of nothing between there are no lines, in no mode; best.Break tells true of it, so that isn't loose.
func TestPartOfNothing(t *testing.T) {
	for _, c := range []api.Config{way(1), way(api.MaxWidth), loose(1, below), longest(way(1)), longest(loose(3, 0))} {
		for _, told := range []string{"", "a", "W", "ab!cd |ef-g", sorts} {
			p := text(told)
			for at := range p.Opps {
				if got, isLoose := lines.Part(p, at, at, c); len(got) != 0 || isLoose {
					t.Errorf("P16.1: %q from %d to itself by %v: %v, %v", told, at, got, isLoose, c)
				}
			}
		}
	}
}

// holdPart holds Part against the layers below, from a boundary up to the first one of Must behind it, and answers what it did.
func holdPart(t *testing.T, p api.Para, from int, c api.Config) ([]api.Line, bool) {
	t.Helper()
	to := must(p, from)
	got, told := lines.Part(p, from, to, c)
	want, ok := best.Break(p, from, to, c)
	if c.Mode == api.First || !ok {
		want = first.Break(p, from, to, c)
	}
	if isLoose := c.Mode == api.Best && !ok; told != isLoose || !slices.Equal(got, want) {
		t.Fatalf("P16.1: from %d to %d: %v, %v, want %v, %v: %v, %v", from, to, got, told, want, isLoose, p, c)
	}
	return got, told
}
