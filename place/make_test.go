package place_test

import (
	"testing"

	"stanza/api"
	"stanza/lines"
	"stanza/place"
)

// The chapter's examples.
func TestExamples(t *testing.T) {
	p := text("aab")
	broken, _ := lines.Break(p, way(2))
	for _, l := range [][]api.Line{broken, at(p, 8, 2, 3), {{To: 2, Cells: 2, End: api.May}, {From: 2, To: 3, Cells: 1, End: api.Must}}} {
		m := place.Make(p, l, 8)
		if s, e := m.Spot(2, false); e != api.OK || s != (api.Spot{Row: 1, Col: 0}) {
			t.Errorf("P17.2: Spot of 2: %v, %d", s, e)
		}
		if s, e := m.Spot(2, true); e != api.OK || s != (api.Spot{Row: 0, Col: 2}) {
			t.Errorf("P17.2: Spot of 2 with back: %v, %d", s, e)
		}
		isByte(t, m, 0, 9, 2)
	}
}

// P17.1: of no lines there is one row of nothing: the text has no bytes, and each column leads to its beginning.
func TestMakeOfNoLines(t *testing.T) {
	for _, l := range [][]api.Line{nil, {}} {
		m := place.Make(text(""), l, 8)
		if m.Rows() != 1 {
			t.Errorf("P17.1: %d rows of no lines", m.Rows())
		}
		spots(t, m, "0.0")
		bytes(t, m, 0, 0)
		noByte(t, m, -1, 0, api.ErrRange)
		noByte(t, m, 1, 0, api.ErrRange)
	}
}

// P17.1: the row of no lines is one of nothing, whatever the text is: each of its columns leads to the text's beginning.
func TestNoLinesOfAText(t *testing.T) {
	for _, told := range []string{"a", "0", "WW|a!b-c"} {
		m := place.Make(text(told), nil, 8)
		if m.Rows() != 1 {
			t.Errorf("P17.1: %d rows of %q and no lines", m.Rows(), told)
		}
		bytes(t, m, 0, 0)
		noByte(t, m, 1, 0, api.ErrRange)
	}
}

// What README.md tells of a text of two rows.
func TestReadme(t *testing.T) {
	p := api.Para{
		Clusters: []api.Cluster{{Len: 1, Cells: 1}, {At: 1, Len: 2, Cells: 1}, {At: 3, Len: 1, Kind: api.Tab}, {At: 4, Len: 1, Cells: 1, Kind: api.Space}, {At: 5, Len: 1, Cells: 1}, {At: 6, Len: 1, Cells: 1}},
		Opps:     []api.Opp{api.Keep, api.Keep, api.Keep, api.Keep, api.May, api.Keep, api.Must},
	}
	right(t, p, way(4))
	m := broken(p, way(4))
	if m.Rows() != 2 {
		t.Errorf("P17.1: %d rows", m.Rows())
	}
	spots(t, m, "0.0 0.1 0.1 0.2 0.4 1.0<0.5 1.1 1.2")
	bytes(t, m, 0, 0, 1, 3, 3, 4, 5)
	bytes(t, m, 1, 5, 6, 7)
}

// P17.1: one line, several lines: as many rows.
func TestRows(t *testing.T) {
	made(t, "", way(1))
	made(t, "", best(way(1)))
	made(t, "a", way(1), "a!")
	made(t, "0", way(1), "0!")
	made(t, "abc def", way(7), "abc def!")
	made(t, "abc |def", way(6), "abc |", "def!")
	made(t, "abc", way(1), "a/", "b/", "c!")
	made(t, "a!b! !0!t", way(9), "a!", "b!", " !", "0!", "t!")
	made(t, "a b|c| |de", way(4), "a bc |", "de!")
	made(t, "a b|c| |de", best(way(4)), "a bc|", " de!")
}

// P17.1: of a line only where it is counts, not how wide it is nor how it ends; columns are those of the tab that is handed in.
func TestMakeMeasures(t *testing.T) {
	p := text("atb=W")
	for _, tab := range []int{1, 2, 3, 8, api.MaxTab} {
		for end := range api.Opp(6) {
			l := []api.Line{{To: 3, Cells: 77, End: end}, {From: 3, To: 5, Cells: -1, End: end}}
			m := place.Make(p, l, tab)
			if m.Rows() != 2 {
				t.Errorf("P17.1: %d rows of two lines", m.Rows())
			}
			behind := max(tab, 2)
			for at, want := range []api.Spot{{Col: 0}, {Col: 1}, {Col: behind}, {Row: 1}} {
				if s, e := m.Spot(at, false); e != api.OK || s != want {
					t.Errorf("P17.2: Spot of %d by tab %d: %v, %d, want %v", at, tab, s, e, want)
				}
			}
			if s, e := m.Spot(3, true); e != api.OK || s != (api.Spot{Col: behind + 1}) {
				t.Errorf("P17.2: Spot of the first row's end by tab %d: %v, %d", tab, s, e)
			}
			isByte(t, m, 0, behind-1, 1)
			isByte(t, m, 0, behind, 2)
			isByte(t, m, 0, behind+1, 3)
		}
	}
}
