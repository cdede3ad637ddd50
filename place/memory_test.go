package place_test

import (
	"math"
	"slices"
	"testing"

	"stanza/api"
	"stanza/lines"
	"stanza/place"
)

// memoryText has three parts, in five rows: "a bc" with a hyphen, "de", "fghij" that is cut, "W", "0k".
const memoryText = "a b|c-de!fghijW!0k"

// memoryLines are a text's lines by the way that the tests of this file take.
func memoryLines(p api.Para) []api.Line {
	l, _ := lines.Break(p, way(5))
	return l
}

// memoryHolds holds all calls' answers of memoryText.
func memoryHolds(t *testing.T, m *place.Map) {
	t.Helper()
	if m.Rows() != 5 {
		t.Errorf("R6, R8: %d rows", m.Rows())
	}
	spots(t, m, "0.0 0.1 0.2 0.3 1.0<0.4 1.1 2.0<1.2 2.1 2.2 2.3 2.4 3.0<2.5 3.0<2.5 3.0<2.5 4.0<3.2 4.0<3.2 4.0 4.1")
	bytes(t, m, 0, 0, 1, 2, 3, 4)
	bytes(t, m, 1, 4, 5, 6)
	bytes(t, m, 2, 6, 7, 8, 9, 10, 11)
	bytes(t, m, 3, 11, 11, 14)
	bytes(t, m, 4, 14, 17)
	noByte(t, m, 5, 0, api.ErrRange)
}

// spoil puts a thing at all places of a list, its spare room included.
func spoil[T any](l []T, with T) {
	l = l[:cap(l)]
	for i := range l {
		l[i] = with
	}
}

// R6: the text and the lines that are handed in aren't changed, spare room included; nor is that room read.
func TestWhatIsHandedInStays(t *testing.T) {
	p := text(memoryText)
	l := append(memoryLines(p), api.Line{From: -1, To: 99, Cells: -7, End: 99}, api.Line{})
	p.Clusters = append(p.Clusters, cluster('W', 17), cluster('0', 20))
	p.Opps = append(p.Opps, api.May, api.Must)
	clusters, opps, had := slices.Clone(p.Clusters), slices.Clone(p.Opps), slices.Clone(l)
	m := place.Make(api.Para{Clusters: p.Clusters[:14], Opps: p.Opps[:15]}, l[:5], 4)
	memoryHolds(t, m)
	none := place.Make(api.Para{Clusters: p.Clusters[:0], Opps: p.Opps[14:15]}, l[:0], 4)
	spots(t, none, "0.0")
	bytes(t, none, 0, 0)
	if !slices.Equal(p.Clusters, clusters) || !slices.Equal(p.Opps, opps) || !slices.Equal(l, had) {
		t.Errorf("R6: the text became %v, the lines %v", p, l)
	}
}

// R6: nothing of what was handed in is kept: a map doesn't change when the text and the lines are changed.
func TestNothingIsKept(t *testing.T) {
	p := text(memoryText)
	l := memoryLines(p)
	m := place.Make(p, l, 4)
	memoryHolds(t, m)
	spoil(p.Clusters, cluster('W', 0))
	memoryHolds(t, m)
	spoil(p.Opps, api.Cut)
	memoryHolds(t, m)
	spoil(l, api.Line{From: -1, To: 7})
	memoryHolds(t, m)
}

// R8: what was asked for in between, of the map and of others, changes no answer; maps of one text are like each other.
func TestAsksStandApart(t *testing.T) {
	p := text(memoryText)
	one, other := place.Make(p, memoryLines(p), 4), place.Make(p, memoryLines(p), 4)
	for range 3 {
		memoryHolds(t, one)
		spots(t, made(t, "aab", way(2), "aa/", "b!"), "0.0 0.1 1.0<0.2 1.1")
		made(t, "", way(1))
		noSpot(t, one, -1, api.ErrRange)
		noByte(t, one, 9, 9, api.ErrRange)
		memoryHolds(t, other)
	}
}

// R5: a text without clusters has one row, whether its clusters and its lines are nil or empty lists.
func TestNoClusters(t *testing.T) {
	room, lineRoom := []api.Cluster{cluster('W', 0)}, []api.Line{{From: 1, To: 2, Cells: 3, End: api.Cut}}
	for _, clusters := range [][]api.Cluster{nil, {}, room[:0]} {
		p := api.Para{Clusters: clusters, Opps: []api.Opp{api.Must}}
		for _, c := range []api.Config{way(1), best(way(1)), way(api.MaxWidth)} {
			right(t, p, c)
			hold(t, p, c)
			for _, l := range [][]api.Line{nil, {}, lineRoom[:0]} {
				for _, tab := range []int{1, 8, api.MaxTab} {
					m := place.Make(p, l, tab)
					if m.Rows() != 1 {
						t.Errorf("R5: %d rows", m.Rows())
					}
					spots(t, m, "0.0")
					bytes(t, m, 0, 0)
				}
			}
		}
	}
}

var ints = []int{math.MinInt, math.MinInt + 1, -4096, -1, 0, 1, 2, 3, 4, 5, 6, 7, 4096, 4097, math.MaxInt - 1, math.MaxInt}

// R7: a nil map has no rows, and answers ErrNil and zeros, whatever it is asked; so does one that Make didn't make: it holds nothing, too.
func TestNil(t *testing.T) {
	for _, m := range []*place.Map{nil, {}} {
		if m.Rows() != 0 {
			t.Errorf("R7: %d rows", m.Rows())
		}
		for _, a := range ints {
			noSpot(t, m, a, api.ErrNil)
			for _, b := range ints {
				noByte(t, m, a, b, api.ErrNil)
			}
		}
	}
}

// P1: right maps at all numbers: what isn't there is refused.
func TestAllNumbers(t *testing.T) {
	for _, told := range []string{"", "a", "W0", memoryText} {
		p := text(told)
		m := broken(p, way(5))
		rows := slowRows(p, memoryLines(p), 4)
		for _, a := range ints {
			if 0 <= a && a <= slowBytes(rows) {
				if s, e := m.Spot(a, false); e != api.OK || s != slowSpot(rows, a, false) {
					t.Errorf("P1: Spot of %d: %v, %d", a, s, e)
				}
			} else {
				noSpot(t, m, a, api.ErrRange)
			}
			for _, b := range ints {
				if 0 <= a && a < len(rows) && b >= 0 {
					isByte(t, m, a, b, slowByte(rows[a], b))
				} else {
					noByte(t, m, a, b, api.ErrRange)
				}
			}
		}
	}
}

// wrongTexts are some that items.Check refuses, beside right ones.
func wrongTexts() []api.Para {
	wrong := text("abcd")
	wrong.Clusters[1] = api.Cluster{At: -1, Len: -1, Cells: math.MaxInt, Kind: 77}
	wrong.Clusters[2] = api.Cluster{At: math.MaxInt, Len: math.MaxInt, Cells: math.MinInt, Kind: api.Tab}
	wrong.Clusters[3] = api.Cluster{Cells: -5}
	wrong.Opps = []api.Opp{api.Must, 9, api.Cut, 255}
	late := text("abc")
	late.Clusters[0].At = 2
	return []api.Para{{}, {Opps: []api.Opp{api.Must}}, {Opps: []api.Opp{1, 3, 2, 2}}, {Clusters: text("t W").Clusters}, text(" t0a|W-"), wrong, late}
}

// P1: of wrong texts and tabs, of boundaries that aren't there, and of lines that aren't the text's nothing is promised, but every call ends and none panics.
func TestEveryCallEnds(t *testing.T) {
	for _, p := range wrongTexts() {
		for i, from := range ints {
			for j, to := range ints {
				tab := ints[(i+j)%len(ints)]
				for _, l := range [][]api.Line{nil, {{From: from, To: to}}, {{From: from, To: to}, {From: to, To: from}}} {
					m := place.Make(p, l, tab)
					if m.Rows() != max(len(l), 1) {
						t.Errorf("P17.1: %d rows of %d lines", m.Rows(), len(l))
					}
					for _, a := range ints {
						m.Spot(a, false)
						m.Spot(a, true)
						for row := -1; row <= 2; row++ {
							m.Byte(api.Spot{Row: row, Col: a})
						}
					}
				}
			}
		}
	}
}
