package span_test

import (
	"strings"
	"testing"

	"stanza/api"
	"stanza/span"
)

// wide holds Cells, by each end there is, against what is wanted without a hyphen.
func wide(t *testing.T, letters string, from, to, tab, want int) {
	t.Helper()
	for _, end := range opps() {
		n := want
		if end == api.Hyphen {
			n++
		}
		if got := span.Cells(text(letters), from, to, end, tab); got != n {
			t.Errorf("P13.3: Cells of %q, %d to %d, end %d, tab %d: %d, want %d", letters, from, to, end, tab, got, n)
		}
	}
}

// P13.3: from a boundary to itself there are none; by Hyphen one.
func TestCellsOfNothing(t *testing.T) {
	for at := range len(sorts) + 1 {
		wide(t, sorts, at, at, 8, 0)
	}
	wide(t, "", 0, 0, 8, 0)
	if span.Cells(none(), 0, 0, api.Must, 1) != 0 || span.Cells(none(), 0, 0, api.Hyphen, 1) != 1 {
		t.Error("P13.3: Cells of no clusters")
	}
}

// P13.3: clusters with 0, 1 and 2 cells; what is empty ahead of what isn't counts.
func TestCells(t *testing.T) {
	wide(t, "a", 0, 1, 8, 1)
	wide(t, "W", 0, 1, 8, 2)
	wide(t, "aW0b", 0, 4, 8, 4)
	wide(t, "aW0b", 1, 3, 8, 2)
	wide(t, "aW0b", 1, 2, 8, 2)
	wide(t, " a", 0, 2, 8, 2)
	wide(t, "=a", 0, 2, 8, 3)
	wide(t, "_0a", 0, 3, 8, 1)
	wide(t, "a = b", 0, 5, 8, 6)
}

// P13.3: what is empty at the end doesn't count.
func TestCellsEmptyEnd(t *testing.T) {
	wide(t, "a ", 0, 2, 8, 1)
	wide(t, "a=", 0, 2, 8, 1)
	wide(t, "a =_0 ", 0, 6, 8, 1)
	wide(t, "ab  cd  ", 0, 8, 8, 6)
	wide(t, "ab  cd  ", 0, 4, 8, 2)
	wide(t, "ab  cd  ", 2, 6, 8, 4)
	wide(t, "   ", 0, 3, 8, 0)
	wide(t, "===", 1, 3, 8, 0)
	wide(t, "0", 0, 1, 8, 0)
}

// P13.3: a Tab at the end counts, with what is empty ahead of it; columns begin at the line's beginning.
func TestCellsTabs(t *testing.T) {
	for _, tab := range []string{"t", "u", "v"} {
		wide(t, tab, 0, 1, 8, 8)
		wide(t, "a"+tab, 0, 2, 8, 8)
		wide(t, "a "+tab, 0, 3, 8, 8)
		wide(t, "a"+tab+"  ", 0, 4, 8, 8)
		wide(t, "abcd"+tab+tab, 0, 6, 4, 12)
		wide(t, "abcd"+tab+tab, 1, 6, 4, 8)
		wide(t, "abcd"+tab+"e", 0, 6, 4, 9)
		wide(t, "abcd"+tab+"e", 2, 6, 4, 5)
		wide(t, "ab"+tab, 0, 3, 1, 3)
		wide(t, "ab"+tab, 0, 3, 64, 64)
	}
}

// P13.3: the longest text there is.
func TestCellsLong(t *testing.T) {
	wide(t, strings.Repeat("W", 4096), 0, 4096, 8, 8192)
	wide(t, strings.Repeat("t", 4096), 0, 4096, 64, 1<<18)
	wide(t, strings.Repeat("=", 4096), 0, 4096, 8, 0)
}

// gaps holds Gaps against what is wanted.
func gaps(t *testing.T, letters string, from, to, want int) {
	t.Helper()
	if got := span.Gaps(text(letters), from, to); got != want {
		t.Errorf("P13.3: Gaps of %q, %d to %d: %d, want %d", letters, from, to, got, want)
	}
}

// P13.3: Spaces ahead of Trim count, one by one, whatever their cells are; those behind it don't.
func TestGaps(t *testing.T) {
	gaps(t, "a b", 0, 3, 1)
	gaps(t, "a  b", 0, 4, 2)
	gaps(t, "a_=b", 0, 4, 2)
	gaps(t, " a", 0, 2, 1)
	gaps(t, "a ", 0, 2, 0)
	gaps(t, " a b  ", 0, 6, 2)
	gaps(t, " a b  ", 1, 6, 1)
	gaps(t, " a b  ", 0, 3, 1)
	gaps(t, " a b  ", 2, 4, 1)
	gaps(t, " a b  ", 2, 3, 0)
	gaps(t, "a 0 ", 0, 4, 0)
	gaps(t, "a 0b", 0, 4, 1)
}

// P13.3: neither Tabs nor clusters without cells are gaps; Spaces ahead of a Tab at the end are.
func TestGapsOthers(t *testing.T) {
	gaps(t, "atb0cW", 0, 6, 0)
	gaps(t, "tuv", 0, 3, 0)
	gaps(t, "a t", 0, 3, 1)
	gaps(t, "a t ", 0, 4, 1)
	gaps(t, "a t ", 0, 2, 0)
}

// P13.3: where all is empty, and from a boundary to itself, there are none.
func TestGapsOfNothing(t *testing.T) {
	for at := range len(sorts) + 1 {
		gaps(t, sorts, at, at, 0)
	}
	gaps(t, "    ", 0, 4, 0)
	gaps(t, "_ = 0", 0, 5, 0)
	if got := span.Gaps(none(), 0, 0); got != 0 {
		t.Errorf("P13.3: Gaps of no clusters: %d", got)
	}
	gaps(t, strings.Repeat(" ", 4095)+"a", 0, 4096, 4095)
}

// ends holds Ends against what is wanted.
func ends(t *testing.T, p api.Para, to int, want api.Opp, may bool) {
	t.Helper()
	if got, ok := span.Ends(p, to); got != want || ok != may {
		t.Errorf("P13.3: Ends at %d of %v: %d, %v", to, p.Opps, got, ok)
	}
}

// P13.3: each boundary, of all that may be done.
func TestEnds(t *testing.T) {
	p := with(text("a bc d"), api.Keep, api.Keep, api.May, api.Hyphen, api.Must, api.May, api.Must)
	ends(t, p, 0, api.Keep, false)
	ends(t, p, 1, api.Keep, false)
	ends(t, p, 2, api.May, true)
	ends(t, p, 3, api.Hyphen, true)
	ends(t, p, 4, api.Must, true)
	ends(t, p, 5, api.May, true)
	ends(t, p, 6, api.Must, true)
	ends(t, none(), 0, api.Must, true)
	ends(t, api.Para{Clusters: []api.Cluster{}, Opps: []api.Opp{api.Must}}, 0, api.Must, true)
	for _, o := range opps()[:4] {
		for to := 1; to < 4; to++ {
			p := text("abcd")
			p.Opps[to] = o
			ends(t, p, to, o, o != api.Keep)
		}
	}
}

// P13.3: Make's four fields are what was asked for, and Cells; what was done at the end is what is handed in, not what may be done there.
func TestMake(t *testing.T) {
	p := with(text("a tbW  "), 0, 0, 1, 1, 3, 3, 1, 2)
	for from := range 8 {
		for to := from; to < 8; to++ {
			for _, end := range opps() {
				for _, tab := range []int{1, 4, 64} {
					want := api.Line{From: from, To: to, Cells: span.Cells(p, from, to, end, tab), End: end}
					if got := span.Make(p, from, to, end, tab); got != want {
						t.Errorf("P13.3: Make %v, want %v", got, want)
					}
				}
			}
		}
	}
}

// P13.3: lines, told by hand.
func TestMakeByHand(t *testing.T) {
	p := text("ab tc  ")
	for _, want := range []api.Line{
		{From: 0, To: 7, Cells: 5, End: api.Must},
		{From: 0, To: 3, Cells: 2, End: api.May},
		{From: 0, To: 2, Cells: 3, End: api.Hyphen},
		{From: 0, To: 1, Cells: 1, End: api.Cut},
		{From: 3, To: 7, Cells: 5, End: api.Keep},
		{From: 4, To: 6, Cells: 2, End: api.Hyphen},
		{From: 5, To: 7, Cells: 0, End: api.Must},
		{From: 7, To: 7, Cells: 0, End: api.Must},
	} {
		if got := span.Make(p, want.From, want.To, want.End, 4); got != want {
			t.Errorf("P13.3: Make %v, want %v", got, want)
		}
	}
	if got := span.Make(none(), 0, 0, api.Must, 8); got != (api.Line{End: api.Must}) {
		t.Errorf("P13.3: Make of no clusters: %v", got)
	}
}
