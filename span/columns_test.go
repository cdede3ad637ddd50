package span_test

import (
	"math"
	"slices"
	"strings"
	"testing"

	"stanza/api"
	"stanza/span"
)

// next holds Next of a cluster, told by its letter, against what is wanted.
func next(t *testing.T, letter byte, col, tab, want int) {
	t.Helper()
	if got := span.Next(cluster(letter), col, tab); got != want {
		t.Errorf("P13.2: Next of %q at %d, tab %d: %d, want %d", letter, col, tab, got, want)
	}
}

// P13.2: what is no Tab has Cells columns, whatever tab is.
func TestNextCells(t *testing.T) {
	for _, tab := range []int{1, 2, 8, 64, math.MaxInt} {
		for _, col := range []int{0, 1, 2, 7, 8, 63, 64, 65, 1 << 20, 1<<31 - 3} {
			next(t, '0', col, tab, col)
			next(t, 'a', col, tab, col+1)
			next(t, 'W', col, tab, col+2)
			next(t, '_', col, tab, col)
			next(t, ' ', col, tab, col+1)
			next(t, '=', col, tab, col+2)
		}
	}
}

// P13.2: a Tab leads to the next multiple that is greater, whatever its cells are.
func TestNextTab(t *testing.T) {
	for _, letter := range []byte("tuv") {
		next(t, letter, 0, 4, 4)
		next(t, letter, 1, 4, 4)
		next(t, letter, 2, 4, 4)
		next(t, letter, 3, 4, 4)
		next(t, letter, 4, 4, 8)
		next(t, letter, 5, 4, 8)
		next(t, letter, 8, 4, 12)
		next(t, letter, 0, 1, 1)
		next(t, letter, 1, 1, 2)
		next(t, letter, 77, 1, 78)
		next(t, letter, 0, 64, 64)
		next(t, letter, 1, 64, 64)
		next(t, letter, 63, 64, 64)
		next(t, letter, 64, 64, 128)
		next(t, letter, 65, 64, 128)
		next(t, letter, 127, 64, 128)
		next(t, letter, 6, 3, 9)
		next(t, letter, 7, 3, 9)
		next(t, letter, 8, 3, 9)
	}
}

// P13.2: every tab that a way may have, at many columns: a multiple, greater, and none is nearer.
func TestNextTabEach(t *testing.T) {
	for tab := 1; tab <= api.MaxTab; tab++ {
		for col := range 4 * tab {
			got := span.Next(cluster('t'), col, tab)
			if got%tab != 0 || got <= col || got-tab > col {
				t.Fatalf("P13.2: Next of a Tab at %d, tab %d: %d", col, tab, got)
			}
		}
	}
}

// P13.2: great columns, and tabs greater than a way's: as long as the answer is an int.
func TestNextGreat(t *testing.T) {
	next(t, 't', 1<<40+1, 64, 1<<40+64)
	next(t, 't', 1<<40, 64, 1<<40+64)
	next(t, 't', 0, math.MaxInt, math.MaxInt)
	next(t, 't', math.MaxInt-1, math.MaxInt, math.MaxInt)
	next(t, 't', math.MaxInt-1, 1, math.MaxInt)
	next(t, 't', 1<<62-1, 1<<62, 1<<62)
	next(t, 'W', math.MaxInt-2, 8, math.MaxInt)
}

// P13.2: where a cluster stands, and how many bytes it has, says nothing.
func TestNextBytes(t *testing.T) {
	for _, letter := range []byte(sorts) {
		c := cluster(letter)
		want := span.Next(c, 5, 8)
		c.At, c.Len = 4000, 90
		if got := span.Next(c, 5, 8); got != want {
			t.Errorf("P13.2: Next of %q: %d, want %d", letter, got, want)
		}
	}
}

// columns holds Columns against what is wanted.
func columns(t *testing.T, letters string, from, to, tab int, want ...int) {
	t.Helper()
	if got := span.Columns(text(letters), from, to, tab); !slices.Equal(got, want) {
		t.Errorf("P13.2: Columns of %q, %d to %d, tab %d: %v, want %v", letters, from, to, tab, got, want)
	}
}

// P13.2: from a boundary to itself there is one column.
func TestColumnsOfNothing(t *testing.T) {
	for at := range len(sorts) + 1 {
		columns(t, sorts, at, at, 8, 0)
	}
	columns(t, "", 0, 0, 8, 0)
	if got := span.Columns(none(), 0, 0, 1); !slices.Equal(got, []int{0}) {
		t.Errorf("P13.2: Columns of no clusters: %v", got)
	}
}

// P13.2: from the first boundary to the last one, and from and to those within; they begin at 0 everywhere.
func TestColumns(t *testing.T) {
	columns(t, "a", 0, 1, 8, 0, 1)
	columns(t, "aW0b", 0, 4, 8, 0, 1, 3, 3, 4)
	columns(t, "aW0b", 1, 4, 8, 0, 2, 2, 3)
	columns(t, "aW0b", 2, 4, 8, 0, 0, 1)
	columns(t, "aW0b", 1, 3, 8, 0, 2, 2)
	columns(t, "aW0b", 0, 2, 8, 0, 1, 3)
	columns(t, "a _=b", 0, 5, 8, 0, 1, 2, 2, 4, 5)
	columns(t, "0000", 0, 4, 8, 0, 0, 0, 0, 0)
	columns(t, sorts, 0, 9, 4, 0, 1, 3, 3, 4, 4, 6, 8, 12, 16)
}

// P13.2: what is empty at the end has its columns too.
func TestColumnsAreNotTrimmed(t *testing.T) {
	columns(t, "a  ", 0, 3, 8, 0, 1, 2, 3)
	columns(t, "   ", 0, 3, 8, 0, 1, 2, 3)
	columns(t, "a0_", 0, 3, 8, 0, 1, 1, 1)
}

// P13.2: Tabs at the beginning, at the end, two in a row, behind wide clusters; from within the columns begin anew.
func TestColumnsTabs(t *testing.T) {
	columns(t, "ta", 0, 2, 4, 0, 4, 5)
	columns(t, "at", 0, 2, 4, 0, 1, 4)
	columns(t, "tt", 0, 2, 4, 0, 4, 8)
	columns(t, "attb", 0, 4, 4, 0, 1, 4, 8, 9)
	columns(t, "abcdte", 0, 6, 4, 0, 1, 2, 3, 4, 8, 9)
	columns(t, "abcdte", 1, 6, 4, 0, 1, 2, 3, 4, 5)
	columns(t, "abcdte", 3, 5, 4, 0, 1, 4)
	columns(t, "abcdte", 4, 6, 4, 0, 4, 5)
	columns(t, "WWtW", 0, 4, 3, 0, 2, 4, 6, 8)
	columns(t, "atbt", 0, 4, 1, 0, 1, 2, 3, 4)
	columns(t, "atbt", 0, 4, 64, 0, 1, 64, 65, 128)
	columns(t, "tuv", 0, 3, 64, 0, 64, 128, 192)
	columns(t, "u", 0, 1, 1, 0, 1)
	columns(t, "v", 0, 1, 1, 0, 1)
}

// P13.2: the longest text there is.
func TestColumnsLong(t *testing.T) {
	p := text(strings.Repeat("t", api.MaxText))
	l := span.Columns(p, 0, api.MaxText, api.MaxTab)
	if len(l) != 4097 {
		t.Fatalf("P13.2: %d columns", len(l))
	}
	for i, col := range l {
		if col != 64*i {
			t.Fatalf("P13.2: column %d is %d", i, col)
		}
	}
}

// trim holds Trim against what is wanted.
func trim(t *testing.T, letters string, from, to, want int) {
	t.Helper()
	if got := span.Trim(text(letters), from, to); got != want {
		t.Errorf("P13.2: Trim of %q, %d to %d: %d, want %d", letters, from, to, got, want)
	}
}

// P13.2: from a boundary to itself.
func TestTrimOfNothing(t *testing.T) {
	for at := range len(sorts) + 1 {
		trim(t, sorts, at, at, at)
	}
	if got := span.Trim(none(), 0, 0); got != 0 {
		t.Errorf("P13.2: Trim of no clusters: %d", got)
	}
}

// P13.2: nothing is empty; then it is to.
func TestTrimNothingEmpty(t *testing.T) {
	trim(t, "a", 0, 1, 1)
	trim(t, "aWtuv", 0, 5, 5)
	trim(t, "aWtuv", 2, 4, 4)
	trim(t, "aWtuv", 1, 5, 5)
}

// P13.2: all is empty; then it is from.
func TestTrimAllEmpty(t *testing.T) {
	for _, letters := range []string{" ", "_", "=", "0", "   ", "0000", " 0_=0 "} {
		for from := range len(letters) + 1 {
			for to := from; to <= len(letters); to++ {
				trim(t, letters, from, to, from)
			}
		}
	}
	trim(t, "a  b", 1, 3, 1)
	trim(t, "a00b", 1, 3, 1)
}

// P13.2: what is empty ahead of what isn't stays; what is behind the last one that isn't goes.
func TestTrim(t *testing.T) {
	trim(t, " a", 0, 2, 2)
	trim(t, "0a", 0, 2, 2)
	trim(t, "a b", 0, 3, 3)
	trim(t, "  a0 b", 0, 6, 6)
	trim(t, "a ", 0, 2, 1)
	trim(t, "a_", 0, 2, 1)
	trim(t, "a=", 0, 2, 1)
	trim(t, "a0", 0, 2, 1)
	trim(t, "a 0 =_0", 0, 7, 1)
	trim(t, " a b  ", 0, 6, 4)
	trim(t, " a b  ", 0, 3, 2)
	trim(t, " a b  ", 2, 6, 4)
	trim(t, " a b  ", 2, 3, 2)
	trim(t, " a b  ", 3, 5, 4)
	trim(t, " a b  ", 4, 6, 4)
}

// P13.2: a Tab isn't empty, whatever its cells are; nor is what stands ahead of it left out.
func TestTrimTabs(t *testing.T) {
	for _, tab := range []string{"t", "u", "v"} {
		trim(t, tab, 0, 1, 1)
		trim(t, "a"+tab, 0, 2, 2)
		trim(t, "  "+tab, 0, 3, 3)
		trim(t, "a "+tab+" 0", 0, 5, 3)
		trim(t, "a "+tab+" 0", 0, 2, 1)
		trim(t, " "+tab, 1, 2, 2)
	}
}

// P13.2: the longest text there is.
func TestTrimLong(t *testing.T) {
	trim(t, strings.Repeat(" ", 4096), 0, 4096, 0)
	trim(t, "a"+strings.Repeat(" ", 4095), 0, 4096, 1)
	trim(t, strings.Repeat(" ", 4095)+"a", 0, 4096, 4096)
}

// P13.2: what may be done at boundaries says nothing of how wide or how far.
func TestOppsSayNothing(t *testing.T) {
	for _, o := range opps()[:4] {
		p := with(text("a tb "), 0, o, o, o, o, 2)
		if got := span.Columns(p, 0, 5, 4); !slices.Equal(got, []int{0, 1, 2, 4, 5, 6}) {
			t.Errorf("P13.2: Columns %v", got)
		}
		if span.Trim(p, 0, 5) != 4 || span.Cells(p, 0, 5, api.Must, 4) != 5 || span.Gaps(p, 0, 5) != 1 {
			t.Errorf("P13.2, P13.3: %d, %d, %d", span.Trim(p, 0, 5), span.Cells(p, 0, 5, api.Must, 4), span.Gaps(p, 0, 5))
		}
	}
}
