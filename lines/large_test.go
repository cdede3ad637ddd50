package lines_test

import (
	"strings"
	"testing"

	"stanza/api"
	"stanza/lines"
)

// whole is a text of the most clusters there are, of letters of one byte that are told again and again, with one thing that may be done between any two.
func whole(letters string, mark api.Opp) api.Para {
	p := text(strings.Repeat(letters, api.MaxText/len(letters)+1)[:api.MaxText])
	for at := 1; at < api.MaxText; at++ {
		p.Opps[at] = mark
	}
	return p
}

// holdLarge holds a text of 4096 bytes that may be broken in mode Best, and tells how many lines it has.
func holdLarge(t *testing.T, p api.Para, c api.Config, isLoose bool) int {
	t.Helper()
	right(t, p, c)
	l, told := holdBreak(t, p, c)
	if told != isLoose {
		t.Errorf("P16.1: told %v by %v", told, c)
	}
	holdLines(t, p, l, c)
	holdRows(t, p, l)
	if _, ok := lines.Cost(p, l, c); c.Mode == api.Best && ok == isLoose {
		t.Errorf("P16.2: whether all lines may be %v by %v", ok, c)
	}
	return len(l)
}

// P16.1, P16.2: a text of 4096 clusters, of one part, of parts of one cluster each.
func TestLarge(t *testing.T) {
	for _, told := range []struct {
		letters string
		mark    api.Opp
		c       api.Config
		isLoose bool
		many    int
	}{
		{"a", api.Keep, way(4096), false, 1},
		{"a", api.Keep, way(4095), true, 2},
		{"a", api.Keep, way(1), true, 4096},
		{"a", api.May, way(64), false, 64},
		{"a", api.Hyphen, loose(65, infinite), false, 64},
		{"a", api.Must, loose(9, below), false, 4096},
		{"t", api.Must, way(8), false, 4096},
		{"t", api.Must, way(7), true, 4096},
		{"a ", api.May, loose(3, 0), false, 1024},
		{"a ", api.May, loose(4, 0.5), true, 1024},
	} {
		for _, mode := range []api.Mode{api.Best, api.First} {
			c, p := told.c, whole(told.letters, told.mark)
			c.Mode = mode
			if n := holdLarge(t, p, c, told.isLoose && mode == api.Best); n != told.many {
				t.Errorf("P16.1: %q, %d, by %v: %d lines, want %d", told.letters, told.mark, c, n, told.many)
			}
		}
	}
}

// P16.1: 64 parts of 64 clusters each; one of them, whichever, can't be broken in mode Best.
func TestLargeOneLoosePart(t *testing.T) {
	for loosePart := -1; loosePart < 64; loosePart++ {
		p := whole("ab c de ", api.Keep)
		for at := 1; at < api.MaxText; at++ {
			switch {
			case at%64 == 0:
				p.Opps[at] = api.Must
			case at%8 == 0 && at/64 != loosePart:
				p.Opps[at] = api.May
			}
		}
		// Two words of eight clusters fill a line, and the cut ones have as many.
		if n := holdLarge(t, p, loose(16, 1), loosePart >= 0); n != 64*4 {
			t.Errorf("P16.1: part %d: %d lines, want %d", loosePart, n, 64*4)
		}
	}
}

// P16.2: the greatest sum there is: 4096 lines, each as bad as can be, with a hyphen behind another one; and lines that may not be behind all others.
func TestLargeSum(t *testing.T) {
	p, c := whole("a", api.Hyphen), hyphens(api.MaxWidth, api.MaxCost, api.MaxCost)
	var ends []int
	for at := 1; at <= api.MaxText; at++ {
		ends = append(ends, at)
	}
	l := at(p, c.Tab, ends...)
	holdSum(t, p, l, c, 4095*(dear+api.MaxCost)+4094*api.MaxCost+100)
	p.Opps[4095] = api.Keep
	holdSum(t, p, l, c, never)
	p.Opps[4095], p.Clusters[4095] = api.Must, api.Cluster{At: 4095, Len: 1, Cells: 2}
	holdSum(t, p, l, c, 4094*(dear+api.MaxCost)+4093*api.MaxCost+200)
}
