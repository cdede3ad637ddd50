package first_test

import (
	"iter"
	"slices"
	"strconv"
	"testing"

	"stanza/api"
	"stanza/first"
	"stanza/span"
)

// holds holds lines against what the document says of all lines (P14.2, P4, P5), whichever they are.
func holds(t *testing.T, p api.Para, from, to int, c api.Config, lines []api.Line) {
	t.Helper()
	at := from
	for _, line := range lines {
		if line.From != at || line.To <= at || line.To > to {
			t.Fatalf("P14.1, P4: a line from %d to %d behind one that ends at %d: %v", line.From, line.To, at, p)
		}
		if want := span.Make(p, line.From, line.To, line.End, c.Tab); line != want {
			t.Fatalf("P13.3: a line %v, want %v: %v, %v", line, want, p, c)
		}
		if slices.Contains(p.Opps[line.From+1:line.To], api.Must) {
			t.Fatalf("P4: a Must within %v: %v", line, p)
		}
		if wrong := wrongEnd(p, line, c); wrong != "" {
			t.Fatalf("P14.2, P5: %s: %v: %v, %v", wrong, line, p, c)
		}
		at = line.To
	}
	if at != to {
		t.Fatalf("P14.1, P4: lines from %d to %d, not to %d: %v", from, at, to, p)
	}
}

// wrongEnd tells what is wrong with where a line ends, and how.
func wrongEnd(p api.Para, line api.Line, c api.Config) string {
	does, _ := span.Ends(p, line.To)
	wide := line.Cells > c.Width
	switch {
	case line.End == api.Keep || line.End > api.Cut:
		return "no end"
	case line.End != api.Cut && line.End != does:
		return "an end that may not be there"
	case line.End == api.Cut && (does == api.May || does == api.Must):
		return "Cut where a line may end"
	case wide && line.To != line.From+1:
		return "wider than the width, and more than a cluster"
	case wide && span.Trim(p, line.From, line.To) == line.From:
		return "wider than the width, of what is empty"
	case wide && line.End == api.Hyphen:
		return "wider than the width, with a hyphen"
	}
	fitting := lastEnd(p, line.From, c)
	switch {
	case (line.End == api.Cut || wide) && fitting > line.From:
		return "an end that may be fits"
	case line.End != api.Cut && !wide && fitting != line.To:
		return "not the last end that fits"
	}
	return ""
}

// lastEnd is the last boundary, up to the next Must, at which a line may end and fits; the line's beginning, if there is none.
func lastEnd(p api.Para, from int, c api.Config) int {
	last, to := from, must(p, from)
	for at := from + 1; at <= to; at++ {
		if end, ok := span.Ends(p, at); ok && span.Cells(p, from, at, end, c.Tab) <= c.Width {
			last = at
		}
	}
	return last
}

// turn makes the next of all rows of numbers below a bound; false: that was the last one.
func turn(row []int, bound int) bool {
	for i := range row {
		row[i]++
		if row[i] < bound {
			return true
		}
		row[i] = 0
	}
	return false
}

// texts are all texts of so many clusters (one at least), of some sorts, with some things that may be done between them. The same memory is used for all of them.
func texts(n int, sorts string, opps ...api.Opp) iter.Seq[api.Para] {
	return func(yield func(api.Para) bool) {
		p := api.Para{Clusters: make([]api.Cluster, n), Opps: make([]api.Opp, n+1)}
		p.Opps[n] = api.Must
		clusters, between := make([]int, n), make([]int, n-1)
		for more := true; more; more = turn(clusters, len(sorts)) {
			for i, sort := range clusters {
				p.Clusters[i] = cluster(sorts[sort], i)
			}
			for more := true; more; more = turn(between, len(opps)) {
				for i, opp := range between {
					p.Opps[i+1] = opps[opp]
				}
				if !yield(p) {
					return
				}
			}
		}
	}
}

// holdFrom holds Break from a boundary on, against what holds of all lines and against slow ones.
func holdFrom(t *testing.T, p api.Para, from int, c api.Config) {
	t.Helper()
	to := must(p, from)
	got := first.Break(p, from, to, c)
	holds(t, p, from, to, c, got)
	if want := slowBreak(p, from, to, c); !slices.Equal(got, want) {
		t.Fatalf("P14.1: from %d to %d: %v, want %v: %v, %v", from, to, got, want, p, c)
	}
}

// widths runs a test at each of some small widths, beside the others.
func widths(t *testing.T, most int, test func(t *testing.T, width int)) {
	for width := 1; width <= most; width++ {
		t.Run(strconv.Itoa(width), func(t *testing.T) {
			t.Parallel()
			test(t, width)
		})
	}
}

// P14.1, P14.2: all texts of up to three clusters of all sorts, with all that may be done, from each boundary on.
func TestAllOfThree(t *testing.T) {
	widths(t, 6, func(t *testing.T, width int) {
		for _, tab := range []int{1, 2, 3, 64} {
			for n := 1; n <= 3; n++ {
				for p := range texts(n, sorts, api.Keep, api.May, api.Must, api.Hyphen) {
					for from := range p.Opps {
						holdFrom(t, p, from, api.Config{Width: width, Tab: tab})
					}
				}
			}
		}
	})
}

// P14.1, P14.2: all texts of four clusters of all sorts, with all that may be done, part by part.
func TestAllOfFour(t *testing.T) {
	widths(t, 6, func(t *testing.T, width int) {
		for p := range texts(4, sorts, api.Keep, api.May, api.Must, api.Hyphen) {
			for from := 0; from < 4; from = must(p, from) {
				holdFrom(t, p, from, api.Config{Width: width, Tab: 3})
			}
		}
	})
}

// P14.1, P14.2: all texts of five clusters of each kind, and of each number of cells, that are one part.
func TestAllOfFive(t *testing.T) {
	widths(t, 5, func(t *testing.T, width int) {
		for p := range texts(5, "0aW t", api.Keep, api.May, api.Hyphen) {
			holdFrom(t, p, 0, api.Config{Width: width, Tab: 2})
		}
	})
}

// P4: of all parts of a text, laid one behind the other: from its beginning to its end, and every Must ends a line.
func TestAllParts(t *testing.T) {
	c := api.Config{Width: 2, Tab: 2}
	for p := range texts(4, "0aW t", api.Keep, api.May, api.Must, api.Hyphen) {
		var ends []int
		for from := 0; from < len(p.Clusters); from = must(p, from) {
			for _, line := range first.Break(p, from, must(p, from), c) {
				ends = append(ends, line.To)
			}
		}
		if !slices.IsSorted(ends) || ends[len(ends)-1] != 4 {
			t.Fatalf("P4: ends %v: %v", ends, p)
		}
		for at, opp := range p.Opps {
			if opp == api.Must && !slices.Contains(ends, at) {
				t.Fatalf("P4: no line ends at %d: %v: %v", at, ends, p)
			}
		}
	}
}
