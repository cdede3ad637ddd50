package book_test

import (
	"slices"
	"strings"
	"testing"

	"stanza/api"
	"stanza/book"
)

// The tests of this file hold layouts against the document's promises of them, by texts of clusters that the slow book made. A line is drawn: a cell of a Space as a blank, any other one as x, and where a Space begins stands a mark that has no cell.

// drawn draws clusters, without what is empty at their end.
func drawn(l []api.Cluster, tab int) string {
	var row []byte
	col := 0
	for _, c := range l {
		cells, with := c.Cells, byte('x')
		switch c.Kind {
		case api.Space:
			row, with = append(row, '^'), ' '
		case api.Tab:
			for cells = 1; (col+cells)%tab != 0; {
				cells++
			}
		}
		for range cells {
			row = append(row, with)
		}
		col += cells
	}
	return strings.TrimRight(string(row), "^ ")
}

// measure tells a line's cells, with its hyphen if it ends by one, and its gaps.
func measure(p api.Para, from, to int, end api.Opp, tab int) (cells, gaps int) {
	line := drawn(p.Clusters[from:to], tab)
	gaps = strings.Count(line, "^")
	cells = len(line) - gaps
	if end == api.Hyphen {
		cells++
	}
	return cells, gaps
}

// fits tells whether a line may end at a boundary and isn't too wide.
func fits(p api.Para, from, to int, c api.Config) bool {
	cells, _ := measure(p, from, to, p.Opps[to], c.Tab)
	return p.Opps[to] != api.Keep && cells <= c.Width
}

// longest is the line of mode First that begins at a boundary.
func longest(p api.Para, from, to int, c api.Config) api.Line {
	end, at := api.Cut, from+1
	for k := from + 1; k <= to; k++ {
		if fits(p, from, k, c) {
			end, at = p.Opps[k], k
		}
	}
	if end == api.Cut {
		for k := from + 1; k <= to; k++ {
			if cells, _ := measure(p, from, k, api.Cut, c.Tab); cells <= c.Width {
				at = k
			}
		}
		if p.Opps[at] == api.May || p.Opps[at] == api.Must {
			end = p.Opps[at]
		}
	}
	cells, _ := measure(p, from, at, end, c.Tab)
	return api.Line{From: from, To: at, Cells: cells, End: end}
}

// price is what a line costs that may be.
func price(p api.Para, from, to int, c api.Config) (int, bool) {
	end := p.Opps[to]
	cells, gaps := measure(p, from, to, end, c.Tab)
	if !fits(p, from, to, c) {
		return 0, false
	}
	sum, bad := 0, 0
	if end != api.Must {
		room := c.Width - cells
		// As long as room and gaps are whole, this is infinite or no number just where it must be.
		if loose := float64(room) / float64(gaps); loose > c.Loose {
			return 0, false
		}
		switch {
		case room >= 5*gaps && room > 0:
			bad = 10000
		case room > 0:
			bad = 100 * room * room * room / (gaps * gaps * gaps)
		}
	}
	if end == api.Hyphen {
		sum += c.Hyphen
		if p.Opps[from] == api.Hyphen {
			sum += c.Pair
		}
	}
	return sum + (10+bad)*(10+bad), true
}

// least is the lines of a part that cost least, and of like ones those that end first; none, if there are none. What follows a boundary costs the same whatever is ahead, but for the hyphen there, which the text tells.
func least(p api.Para, from, to int, c api.Config) []api.Line {
	sums, next := make([]int, to+1), make([]int, to+1)
	for at := to - 1; at >= from; at-- {
		for end := at + 1; end <= to; end++ {
			if end < to && next[end] == 0 {
				continue
			}
			n, ok := price(p, at, end, c)
			if ok && (next[at] == 0 || n+sums[end] < sums[at]) {
				sums[at], next[at] = n+sums[end], end
			}
		}
	}
	var l []api.Line
	for at := from; at < to && next[from] > 0; at = next[at] {
		cells, _ := measure(p, at, next[at], p.Opps[next[at]], c.Tab)
		l = append(l, api.Line{From: at, To: next[at], Cells: cells, End: p.Opps[next[at]]})
	}
	return l
}

// boundaries tells at which boundary of clusters each byte boundary is; -1, if none is there.
func boundaries(p api.Para, n int) []int {
	l := slices.Repeat([]int{-1}, n+1)
	for i, c := range p.Clusters {
		l[c.At] = i
	}
	l[n] = len(p.Clusters)
	return l
}

// linesOf tells rows as lines of clusters, and holds P4: they stand one behind the other, from the first byte to the last one, and end at boundaries of clusters.
func linesOf(t *testing.T, p api.Para, text []byte, rows []api.Row) []api.Line {
	t.Helper()
	if len(text) == 0 {
		if !slices.Equal(rows, []api.Row{{End: api.Must}}) {
			t.Fatalf("P4: of nothing %v", rows)
		}
		return nil
	}
	var l []api.Line
	at, from := boundaries(p, len(text)), 0
	for _, r := range rows {
		if r.From != from || r.To <= from || r.To > len(text) || at[r.To] < 0 {
			t.Fatalf("P4: %q: rows %v, by %v", text, rows, p)
		}
		l = append(l, api.Line{From: at[r.From], To: at[r.To], Cells: r.Cells, End: r.End})
		from = r.To
	}
	if from != len(text) {
		t.Fatalf("P4: %q: rows %v", text, rows)
	}
	return l
}

// holdEnds holds P4: each line ends where something may be done, or by Cut, and every Must ends one.
func holdEnds(t *testing.T, p api.Para, l []api.Line) {
	t.Helper()
	for _, line := range l {
		if line.End == api.Keep || line.End != api.Cut && line.End != p.Opps[line.To] || p.Opps[line.To] == api.Must && line.End != api.Must {
			t.Fatalf("P4: %v ends so: %v", line, p)
		}
		if slices.Contains(p.Opps[line.From+1:line.To], api.Must) {
			t.Fatalf("P4: %v goes over a Must: %v", line, p)
		}
	}
}

// holdWidths holds P5: lines are as wide as they are told, too wide only as one cluster, and cut only where none may end that fits.
func holdWidths(t *testing.T, p api.Para, l []api.Line, c api.Config) {
	t.Helper()
	for _, line := range l {
		if cells, _ := measure(p, line.From, line.To, line.End, c.Tab); cells != line.Cells {
			t.Fatalf("P5: %v has %d cells: %v", line, cells, p)
		}
		// But for what is empty one cluster is left: so all behind the first one is.
		if first, _ := measure(p, line.From, line.From+1, api.Cut, c.Tab); line.Cells > c.Width && first != line.Cells {
			t.Fatalf("P5: %v is too wide: %v, %v", line, p, c)
		}
		for to := line.From + 1; line.End == api.Cut && to < len(p.Opps); to++ {
			if fits(p, line.From, to, c) {
				t.Fatalf("P5: %v is cut: %v, %v", line, p, c)
			}
			if p.Opps[to] == api.Must {
				break
			}
		}
	}
}

// want is what lines a text has, part by part, and whether one is told loose (P5 of mode First, P6).
func want(p api.Para, c api.Config) ([]api.Line, bool) {
	var all []api.Line
	from, isLoose := 0, false
	for to := 1; to < len(p.Opps); to++ {
		if p.Opps[to] != api.Must {
			continue
		}
		var part []api.Line
		if c.Mode == api.Best {
			part = least(p, from, to, c)
			isLoose = isLoose || part == nil
		}
		for at := from; part == nil && at < to; {
			line := longest(p, at, to, c)
			all, at = append(all, line), line.To
		}
		all, from = append(all, part...), to
	}
	return all, isLoose
}

// hold holds Para and Lay of a text by a way, in both modes. It tells whether the modes' rows differ, and whether those of mode Best are loose.
func hold(t *testing.T, s slow, b *book.Book, text []byte, c api.Config) (differ, isLoose bool) {
	t.Helper()
	p := s.para(text)
	if got, e := b.Para(text); e != api.OK || !equal(got, p) {
		t.Fatalf("P20.2: %q: %v, error %d, want %v: %v", text, got, e, p, s.Data)
	}
	var rows [2][]api.Row
	for _, c.Mode = range []api.Mode{api.First, api.Best} {
		layout, e := b.Lay(text, c)
		if e != api.OK {
			t.Fatalf("P3: %q by %v: error %d", text, c, e)
		}
		l := linesOf(t, p, text, layout.Rows)
		holdEnds(t, p, l)
		holdWidths(t, p, l, c)
		wanted, told := want(p, c)
		if !slices.Equal(l, wanted) || layout.Loose != told {
			t.Fatalf("P5, P6: %q by %v: %v, %v, want %v, %v: %v", text, c, l, layout.Loose, wanted, told, p)
		}
		rows[c.Mode], isLoose = layout.Rows, layout.Loose
	}
	return !slices.Equal(rows[api.First], rows[api.Best]), isLoose
}
