package lines_test

import (
	"slices"
	"strings"
	"testing"

	"stanza/api"
	"stanza/items"
	"stanza/lines"
)

// The chapter's example: of no clusters there are no lines, and one row.
func TestExample(t *testing.T) {
	for _, p := range []api.Para{text(""), {Opps: []api.Opp{api.Must}}, items.Make(nil, nil, nil, nil, nil)} {
		for _, c := range []api.Config{way(3), longest(way(3)), loose(1, below)} {
			right(t, p, c)
			l, told := lines.Break(p, c)
			if len(l) != 0 || told {
				t.Errorf("P16.1: of no clusters: %v, %v", l, told)
			}
			if got := lines.Rows(p, l); !slices.Equal(got, []api.Row{{End: api.Must}}) {
				t.Errorf("P16.2: of no clusters: %v", got)
			}
		}
	}
}

// P16.1: a text of one part.
func TestBreakOnePart(t *testing.T) {
	breaks(t, words, way(9), false, "aaa bbb |7", "c dddd |6", "eeeeeeeee!9")
	breaks(t, words, loose(9, 2.9), true, "aaa bbb c |9", "dddd |4", "eeeeeeeee!9")
	breaks(t, words, longest(loose(9, 2.9)), false, "aaa bbb c |9", "dddd |4", "eeeeeeeee!9")
	breaks(t, words, way(api.MaxWidth), false, "aaa bbb c dddd eeeeeeeee!24")
	breaks(t, "a", way(1), false, "a!1")
	breaks(t, " ", way(1), false, " !0")
	breaks(t, "W", way(1), true, "W!2")
	breaks(t, "W", longest(way(1)), false, "W!2")
	breaks(t, "aaaa |b", loose(3, 0), true, "aaa/3", "a b!3")
	got, told := lines.Break(text(words), way(9))
	if told || !slices.Equal(got, []api.Line{{To: 8, Cells: 7, End: api.May}, {From: 8, To: 15, Cells: 6, End: api.May}, {From: 15, To: 24, Cells: 9, End: api.Must}}) {
		t.Errorf("P16.1: %v, %v", got, told)
	}
}

// P16.1: several parts, each broken by itself: a Must ends a line, whatever would fit.
func TestBreakSeveralParts(t *testing.T) {
	for _, c := range []api.Config{way(9), loose(9, below), longest(way(9))} {
		breaks(t, "a!b", c, false, "a!1", "b!1")
		breaks(t, "a b!c |d-e!f", c, false, "a b!3", "c de!4", "f!1")
		breaks(t, "a! !0!=!b", c, false, "a!1", " !0", "0!0", "=!0", "b!1")
		breaks(t, "at!at!t", c, false, "at!8", "at!8", "t!8")
	}
	three := strings.Join([]string{words, "a b|c-de", words}, "!")
	best := []string{"aaa bbb |7", "c dddd |6", "eeeeeeeee!9"}
	breaks(t, three, way(9), false, slices.Concat(best, []string{"a bcde!6"}, best)...)
	long := []string{"aaa bbb c |9", "dddd |4", "eeeeeeeee!9"}
	breaks(t, three, longest(way(9)), false, slices.Concat(long, []string{"a bcde!6"}, long)...)
	breaks(t, three, loose(9, 2), true, slices.Concat(long, []string{"a bcde!6"}, long)...)
}

// P16.1: parts of one cluster each.
func TestBreakSmallParts(t *testing.T) {
	for _, c := range []api.Config{way(1), loose(1, below), longest(way(1))} {
		breaks(t, "a!b!c!d", c, false, "a!1", "b!1", "c!1", "d!1")
		breaks(t, "0! !a!_!=", c, false, "0!0", " !0", "a!1", "_!0", "=!0")
		breaks(t, "a!W!t", c, c.Mode == api.Best, "a!1", "W!2", "t!8")
	}
	breaks(t, "a!W!t", way(7), true, "a!1", "W!2", "t!8")
	breaks(t, "a!W!t", way(8), false, "a!1", "W!2", "t!8")
}

// piece is a part, whether it can't be broken in mode Best at width 4 and Loose 1, and its lines, then and in mode First.
type piece struct {
	text    string
	isLoose bool
	best    []string
	first   []string
}

// P16.1: several parts of which none, one, the first, the last, some and all can't be broken in mode Best: each is broken as it can, and Break tells whether one can't.
func TestBreakWhichPartsAreLoose(t *testing.T) {
	pieces := []piece{
		{"ab", false, []string{"ab!2"}, []string{"ab!2"}},
		{"a b|c| |de", false, []string{"a bc|4", " de!3"}, []string{"a bc |4", "de!2"}},
		{"abcde", true, []string{"abcd/4", "e!1"}, []string{"abcd/4", "e!1"}},
		{"ab |cde", true, []string{"ab |2", "cde!3"}, []string{"ab |2", "cde!3"}},
	}
	row := make([]int, 4)
	for more := true; more; more = turn(row, len(pieces)) {
		for n := 1; n <= len(row); n++ {
			var texts, best, first []string
			isLoose := false
			for _, i := range row[:n] {
				texts = append(texts, pieces[i].text)
				best = append(best, pieces[i].best...)
				first = append(first, pieces[i].first...)
				isLoose = isLoose || pieces[i].isLoose
			}
			told := strings.Join(texts, "!")
			breaks(t, told, loose(4, 1), isLoose, best...)
			breaks(t, told, longest(loose(4, 1)), false, first...)
		}
	}
}

// holdBreak holds Break against Part of each part, and Part against the layers below; it answers what Break did.
func holdBreak(t *testing.T, p api.Para, c api.Config) ([]api.Line, bool) {
	t.Helper()
	var want []api.Line
	isLoose := false
	for from := 0; from < len(p.Clusters); from = must(p, from) {
		l, told := holdPart(t, p, from, c)
		want = append(want, l...)
		isLoose = isLoose || told
	}
	got, told := lines.Break(p, c)
	if told != isLoose || !slices.Equal(got, want) {
		t.Fatalf("P16.1: Break: %v, %v, want %v, %v: %v, %v", got, told, want, isLoose, p, c)
	}
	return got, told
}
