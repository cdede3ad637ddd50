package place_test

import (
	"cmp"
	"iter"
	"strconv"
	"testing"

	"stanza/api"
	"stanza/items"
	"stanza/place"
)

// order holds two spots against each other: row, then column.
func order(a, b api.Spot) int {
	return cmp.Or(cmp.Compare(a.Row, b.Row), cmp.Compare(a.Col, b.Col))
}

// spotOf and byteOf are answers that must be there.
func spotOf(t *testing.T, m *place.Map, at int, back bool) api.Spot {
	t.Helper()
	s, e := m.Spot(at, back)
	if e != api.OK {
		t.Fatalf("P17.2: Spot of %d, %v: %d", at, back, e)
	}
	return s
}

func byteOf(t *testing.T, m *place.Map, s api.Spot) int {
	t.Helper()
	n, e := m.Byte(s)
	if e != api.OK {
		t.Fatalf("P17.2: Byte of %v: %d", s, e)
	}
	return n
}

// holdRise holds that spots rise with the bytes, without back and with it, and that one with back is not behind one without.
func holdRise(t *testing.T, m *place.Map, p api.Para) {
	t.Helper()
	var ahead, aheadBack api.Spot
	for at := range items.Bytes(p) + 1 {
		s, back := spotOf(t, m, at, false), spotOf(t, m, at, true)
		if order(s, ahead) < 0 || order(back, aheadBack) < 0 || order(back, s) > 0 {
			t.Fatalf("P17.3: spots of byte %d: %v, with back %v, behind %v, %v: %v", at, s, back, ahead, aheadBack, p)
		}
		ahead, aheadBack = s, back
	}
	// What has cells leads to a spot that is behind it.
	for _, c := range p.Clusters {
		s, behind := spotOf(t, m, c.At, false), spotOf(t, m, c.At+c.Len, true)
		if seen := c.Cells > 0 || c.Kind == api.Tab; order(s, behind) >= 0 && seen || order(s, behind) != 0 && !seen {
			t.Fatalf("P17.3: a cluster from %v to %v: %v of %v", s, behind, c, p)
		}
	}
}

// holdBack holds Spot of what Byte tells of each column of each row: a spot that is not behind it, but where the byte is the next row's beginning.
func holdBack(t *testing.T, m *place.Map, rows [][]slowPlace, p api.Para) {
	t.Helper()
	for i, row := range rows {
		next := -1
		if i+1 < len(rows) {
			next = rows[i+1][0].byte
		}
		for col := range row[len(row)-1].col + 4 {
			s := api.Spot{Row: i, Col: col}
			at := byteOf(t, m, s)
			told, back := spotOf(t, m, at, false), spotOf(t, m, at, true)
			if at == next {
				if told != (api.Spot{Row: i + 1}) || back.Row != i || order(back, s) > 0 {
					t.Fatalf("P17.3: Spot of Byte of %v: %v, with back %v: %v in %v", s, told, back, p, rows)
				}
			} else if told.Row != i || order(told, s) > 0 {
				t.Fatalf("P17.3: Spot of Byte of %v: %v: %v in %v", s, told, p, rows)
			}
		}
	}
}

// holdThereAndBack holds P7: the spot of a byte leads back to a byte of that spot; to the byte itself (of one within a cluster to its beginning), where no cluster without cells stands ahead of it in the row.
func holdThereAndBack(t *testing.T, m *place.Map, rows [][]slowPlace, p api.Para) {
	t.Helper()
	for at := range items.Bytes(p) + 1 {
		from := at
		for _, c := range p.Clusters {
			if c.At <= at && at < c.At+c.Len {
				from = c.At
			}
		}
		for _, back := range []bool{false, true} {
			s := spotOf(t, m, at, back)
			led := byteOf(t, m, s)
			if spotOf(t, m, led, false) != s && spotOf(t, m, led, true) != s {
				t.Fatalf("P7: byte %d by %v to %d, which isn't there: %v in %v", at, s, led, p, rows)
			}
			if led != from && !inTheWay(rows[s.Row], from) {
				t.Fatalf("P7: byte %d by %v to %d, want %d: %v in %v", at, s, led, from, p, rows)
			}
		}
	}
}

// inTheWay tells whether a cluster without cells stands, in a row, ahead of a byte.
func inTheWay(row []slowPlace, byte int) bool {
	for k := 1; k < len(row); k++ {
		if row[k].byte == byte {
			return row[k-1].col == row[k].col
		}
	}
	return false
}

// turn makes the next of all rows of numbers below a bound; false: that was the last one.
func turn(row []int, bound int) bool {
	for i := range row {
		row[i]++
		if row[i] < bound {
			return true
		}
		row[i] = 0
	}
	return false
}

// texts are all texts of so many clusters (one at least), of some sorts, with some things that may be done between them. The same memory is used for all of them.
func texts(n int, sorts string, opps ...api.Opp) iter.Seq[api.Para] {
	return func(yield func(api.Para) bool) {
		p := api.Para{Clusters: make([]api.Cluster, n), Opps: make([]api.Opp, n+1)}
		p.Opps[n] = api.Must
		clusters, between := make([]int, n), make([]int, n-1)
		for more := true; more; more = turn(clusters, len(sorts)) {
			at := 0
			for i, sort := range clusters {
				p.Clusters[i] = cluster(sorts[sort], at)
				at += p.Clusters[i].Len
			}
			for more := true; more; more = turn(between, len(opps)) {
				for i, opp := range between {
					p.Opps[i+1] = opps[opp]
				}
				if !yield(p) {
					return
				}
			}
		}
	}
}

// widths runs a test at each of some small widths, beside the others.
func widths(t *testing.T, most int, test func(t *testing.T, width int)) {
	for width := 1; width <= most; width++ {
		t.Run(strconv.Itoa(width), func(t *testing.T) {
			t.Parallel()
			test(t, width)
		})
	}
}

// P17.1 to P17.3, P7: all texts of up to three clusters of all sorts, with all that may be done, in both modes.
func TestAllOfThree(t *testing.T) {
	widths(t, 5, func(t *testing.T, width int) {
		for n := 1; n <= 3; n++ {
			for p := range texts(n, sorts, api.Keep, api.May, api.Must, api.Hyphen) {
				hold(t, p, api.Config{Width: width, Tab: 1 + (width+n)%4, Loose: 1})
			}
		}
	})
}

// P17.1 to P17.3, P7: all texts of four clusters of each kind, with all that may be done, in both modes.
func TestAllOfFour(t *testing.T) {
	widths(t, 4, func(t *testing.T, width int) {
		for p := range texts(4, "0W t", api.Keep, api.May, api.Must, api.Hyphen) {
			hold(t, p, api.Config{Width: width, Tab: 3, Hyphen: 30, Loose: 2})
		}
	})
}

// P17.1 to P17.3, P7: all texts of up to four clusters, in all lines that stand one behind the other, whatever way would make them.
func TestAllLines(t *testing.T) {
	for n := 1; n <= 4; n++ {
		for p := range texts(n, sorts[:7], api.Keep) {
			for row := range 1 << (n - 1) {
				var ends []int
				for to := 1; to <= n; to++ {
					if to == n || row&(1<<(to-1)) != 0 {
						ends = append(ends, to)
					}
				}
				holdMap(t, p, at(p, 3, ends...), 3)
			}
		}
	}
}
