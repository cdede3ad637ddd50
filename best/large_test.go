package best_test

import (
	"slices"
	"strings"
	"testing"

	"stanza/api"
	"stanza/best"
)

// whole is a text of the most clusters there are, of letters that are told again and again, with one thing that may be done between any two.
func whole(letters string, mark api.Opp) api.Para {
	p := text(strings.Repeat(letters, api.MaxText/len(letters)+1)[:api.MaxText])
	for at := 1; at < api.MaxText; at++ {
		p.Opps[at] = mark
	}
	return p
}

// P15.2: a text of 4096 clusters of one part, that is one line, the longest ones of Tabs, too.
func TestLargeOneLine(t *testing.T) {
	c := api.Config{Width: api.MaxWidth, Tab: api.MaxTab, Mode: api.Best, Loose: noNumber}
	for letter, cells := range map[string]int{"a": 4096, "W": 8192, "t": 262144, " ": 0, "0": 0} {
		for _, mark := range []api.Opp{api.Keep, api.May, api.Hyphen} {
			p := whole(letter, mark)
			right(t, p, c)
			got, ok := best.Break(p, 0, api.MaxText, c)
			if !ok || !slices.Equal(got, []api.Line{{To: 4096, Cells: cells, End: api.Must}}) {
				t.Errorf("P15.2: of %q: %d lines, %v", letter, len(got), ok)
			}
		}
	}
}

// P15.2: one of 4096 that has no gaps: full lines cost least; where none can be full, there are none, if Loose is below infinite.
func TestLargeFullLines(t *testing.T) {
	for _, width := range []int{1, 2, 63, 64, 1000, 4095, 4096} {
		for _, most := range []float64{noNumber, below} {
			p, c := whole("a", api.May), loose(width, most)
			got, ok := best.Break(p, 0, api.MaxText, c)
			holds(t, p, 0, api.MaxText, c, got, ok)
			if want := (api.MaxText + width - 1) / width; !ok || len(got) != want {
				t.Errorf("P15.2: width %d: %d lines, %v, want %d", width, len(got), ok, want)
			}
		}
	}
	if got, ok := best.Break(whole("a", api.Keep), 0, api.MaxText, way(4095)); ok || len(got) > 0 {
		t.Errorf("P15.2, R3: %d lines, %v, want none", len(got), ok)
	}
	if got, ok := best.Break(whole("W", api.May), 0, api.MaxText, loose(63, 1e9)); ok || len(got) > 0 {
		t.Errorf("P15.2, R3: %d lines, %v, want none", len(got), ok)
	}
}

// row is ends from a part's beginning on, and what their lines cost.
type row struct {
	ends []int
	sum  int
}

// forward tells the ends of the lines that cost least from the text's beginning on: for each boundary the least row of ends up to it, held against the others as a whole. It takes Cost as it is.
func forward(p api.Para, c api.Config) row {
	to := len(p.Clusters)
	rows := make([]row, to+1)
	for from := range to {
		if from > 0 && len(rows[from].ends) == 0 {
			continue
		}
		for at := from + 1; at <= to; at++ {
			if cells, _ := slowSize(p.Clusters[from:at], c.Tab); cells > c.Width {
				break
			}
			n, ok := best.Cost(p, from, at, at == to, c)
			if !ok {
				continue
			}
			r := row{append(slices.Clone(rows[from].ends), at), rows[from].sum + n}
			had := rows[at]
			if len(had.ends) == 0 || r.sum < had.sum || r.sum == had.sum && slices.Compare(r.ends, had.ends) < 0 {
				rows[at] = r
			}
		}
	}
	return rows[to]
}

// P15.2: parts of 4096 clusters, against rows that are laid from the beginning on, with like sums in plenty.
func TestLargeAgainstForward(t *testing.T) {
	for _, told := range []struct {
		letters string
		mark    api.Opp
		c       api.Config
	}{
		{"abc de f ghij0 ", api.May, hyphens(30, 0, 0)},
		{"abc de f ghij0 ", api.Hyphen, hyphens(30, 50, 3000)},
		{"aW=tb 0c d ef", api.May, loose(25, 2)},
		{"aaaa aaa", api.Hyphen, loose(17, 1)},
		{"ab0", api.May, loose(9, infinite)},
	} {
		p := whole(told.letters, told.mark)
		right(t, p, told.c)
		got, ok := best.Break(p, 0, api.MaxText, told.c)
		holds(t, p, 0, api.MaxText, told.c, got, ok)
		want := forward(p, told.c)
		if !slices.EqualFunc(got, want.ends, func(line api.Line, end int) bool { return line.To == end }) || ok != (len(got) > 0) {
			t.Errorf("P15.2: of %q by %v: %v, %v, want ends %v", told.letters, told.c, got, ok, want.ends)
		}
		if !ok {
			t.Errorf("%q by %v says little: there are no lines", told.letters, told.c)
		}
	}
}
