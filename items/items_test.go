package items_test

import (
	"math"
	"slices"
	"testing"

	"stanza/api"
	"stanza/cells"
	"stanza/items"
	"stanza/prop"
	"stanza/scal"
)

const top = 0x10ffff

// signs are those of a text, as scal reads them.
func signs(text string) []api.Scalar { return scal.All([]byte(text)) }

// table is one of right ranges.
func table(t *testing.T, l ...api.Range) *prop.Table {
	t.Helper()
	p, e := prop.Make(l, 256)
	if e != api.OK {
		t.Fatalf("P2.1: %v: %d", l, e)
	}
	return p
}

// terminal says cells as a terminal has them: signs that stand on others have none, wide ones two.
func terminal(t *testing.T) *prop.Table {
	t.Helper()
	return table(t,
		api.Range{Lo: 0x20, Hi: 0x7e, To: 1},
		api.Range{Lo: 0xa0, Hi: 0x2ff, To: 1},
		api.Range{Lo: 0x4e00, Hi: 0x9fff, To: 2},
		api.Range{Lo: api.Bad, Hi: api.Bad, To: 1},
	)
}

// all are n times the same.
func all[T any](n int, what T) []T { return slices.Repeat([]T{what}, n) }

// only are n of one thing, but another one at some places.
func only[T any](n int, rest, what T, places ...int) []T {
	l := all(n, rest)
	for _, i := range places {
		l[i] = what
	}
	return l
}

// same tells whether two texts of clusters are.
func same(a, b api.Para) bool {
	return slices.Equal(a.Clusters, b.Clusters) && slices.Equal(a.Opps, b.Opps)
}

// does holds what Make says may be done at the boundaries; the clusters are held against cells.Make's.
func does(t *testing.T, what string, l []api.Scalar, marks, breaks []api.Opp, points []bool, want ...api.Opp) {
	t.Helper()
	for _, x := range []*prop.Table{nil, {}, terminal(t)} {
		got := items.Make(l, marks, breaks, points, x)
		clusters, _ := cells.Make(l, marks, x)
		if !same(got, api.Para{Clusters: clusters, Opps: want}) {
			t.Errorf("P11.1: %q: breaks %v, points %v: %v, want %v, %v", what, breaks, points, got, clusters, want)
		}
	}
}

// manyBreaks are lists of breaks of all lengths about that of few signs.
func manyBreaks() [][]api.Opp {
	lists := [][]api.Opp{nil, {}}
	for n := range 6 {
		for _, o := range []api.Opp{api.Keep, api.May, api.Must, api.Hyphen, api.Cut, 5, 255} {
			lists = append(lists, all(n+1, o))
		}
	}
	return lists
}

// manyPoints are lists of points of all lengths about that of few signs.
func manyPoints() [][]bool {
	lists := [][]bool{nil, {}}
	for n := range 6 {
		lists = append(lists, all(n+1, true), all(n+1, false))
	}
	return lists
}

// each goes through all pairs of lists.
func each(f func(breaks []api.Opp, points []bool)) {
	for _, breaks := range manyBreaks() {
		for _, points := range manyPoints() {
			f(breaks, points)
		}
	}
}

// P11.1, P11.2: the chapter's example.
func TestExamples(t *testing.T) {
	p := items.Make(nil, nil, nil, nil, terminal(t))
	if len(p.Clusters) != 0 || !slices.Equal(p.Opps, []api.Opp{api.Must}) {
		t.Errorf("P11.1: of no signs: %v", p)
	}
	if parts := items.Parts(p); !slices.Equal(parts, []int{0}) {
		t.Errorf("P11.2: of no signs: Parts %v", parts)
	}
	if !items.Check(p) || items.Bytes(p) != 0 {
		t.Errorf("P11.2: of no signs: Check %v, Bytes %d", items.Check(p), items.Bytes(p))
	}
}

// P11.1: of no signs there is Must at the one boundary, whatever the lists have.
func TestNoSign(t *testing.T) {
	for _, l := range [][]api.Scalar{nil, {}, signs("")} {
		for _, marks := range [][]api.Opp{nil, {}, {api.Keep}, {api.May}, {api.Must, api.May, 9}} {
			each(func(breaks []api.Opp, points []bool) {
				does(t, "no sign", l, marks, breaks, points, api.Must)
			})
		}
	}
}

// P11.1: of one sign, and of several that are one cluster, there is Keep at 0 and Must at the end, whatever the lists have.
func TestOneCluster(t *testing.T) {
	for _, text := range []string{"a", " ", "\t", "é", "一", "\xff", "a\u0301", "abc", "    "} {
		n := len(signs(text))
		each(func(breaks []api.Opp, points []bool) {
			does(t, text, signs(text), nil, breaks, points, api.Keep, api.Must)
			does(t, text, signs(text), only(n+1, api.Keep, api.Must, 0, n), breaks, points, api.Keep, api.Must)
		})
	}
}

// P11.1: the clusters are cells.Make's: bytes, cells, kinds.
func TestClusters(t *testing.T) {
	marks := []api.Opp{0, 0, 1, 1, 1, 1, 2}
	got := items.Make(signs("a\u0301 \t一\xff"), marks, []api.Opp{0, 0, 0, 1, 1, 0, 2}, nil, terminal(t))
	want := api.Para{
		Clusters: []api.Cluster{{Len: 3, Cells: 1}, {At: 3, Len: 1, Cells: 1, Kind: api.Space}, {At: 4, Len: 1, Kind: api.Tab}, {At: 5, Len: 3, Cells: 2}, {At: 8, Len: 1, Cells: 1}},
		Opps:     []api.Opp{api.Keep, api.Keep, api.May, api.May, api.Keep, api.Must},
	}
	if !same(got, want) {
		t.Errorf("P11.1: %v, want %v", got, want)
	}
	if !items.Check(got) || items.Bytes(got) != 9 {
		t.Errorf("P11.2: Check %v, Bytes %d", items.Check(got), items.Bytes(got))
	}
}

// P11.1, R7: by a nil table, and by one that holds nothing, no cluster has cells; the rest is the same.
func TestTableOfNothing(t *testing.T) {
	want := api.Para{
		Clusters: []api.Cluster{{Len: 1}, {At: 1, Len: 1, Kind: api.Space}, {At: 2, Len: 3}},
		Opps:     []api.Opp{api.Keep, api.Hyphen, api.May, api.Must},
	}
	for _, x := range []*prop.Table{nil, {}, table(t)} {
		got := items.Make(signs("a 一"), all(4, api.May), []api.Opp{0, 0, 1, 2}, all(4, true), x)
		if !same(got, want) {
			t.Errorf("R7: %v, want %v", got, want)
		}
		if !items.Check(got) {
			t.Error("P11.2: by a table of nothing it is refused")
		}
	}
}

// P11.1: at 0 Keep and at the end Must, whatever breaks and points have there.
func TestBothEnds(t *testing.T) {
	l, marks := signs("abc"), all(4, api.May)
	for o := range 256 {
		for _, first := range []bool{false, true} {
			for _, last := range []bool{false, true} {
				breaks := []api.Opp{api.Opp(o), api.May, api.Keep, api.Opp(o)}
				does(t, "both ends", l, marks, breaks, []bool{first, false, false, last}, api.Keep, api.May, api.Keep, api.Must)
			}
		}
	}
	does(t, "one sign each", signs("ab"), all(3, api.May), []api.Opp{api.Must, api.Must, api.Keep}, all(3, true), api.Keep, api.Must, api.Must)
}

// P11.1: what breaks has is left as it is, be it one of the document's or none, points true or not; but Keep with a point is Hyphen.
func TestBreakOfEachKind(t *testing.T) {
	l, marks := signs("abcd"), all(5, api.May)
	for n := range 256 {
		o := api.Opp(n)
		cut := o
		if o == api.Keep {
			cut = api.Hyphen
		}
		for _, points := range [][]bool{nil, {}, {true}, all(4, false), all(5, false), {true, false, false, false, true}} {
			does(t, "no point", l, marks, []api.Opp{0, o, o, o, 2}, points, api.Keep, o, o, o, api.Must)
		}
		for _, points := range [][]bool{all(4, true), all(5, true), {false, true, true, true, false}} {
			does(t, "points", l, marks, []api.Opp{0, o, o, o, 2}, points, api.Keep, cut, cut, cut, api.Must)
		}
		does(t, "the first point", l, marks, []api.Opp{0, o, o, o, 2}, []bool{false, true}, api.Keep, cut, o, o, api.Must)
		does(t, "the middle point", l, marks, []api.Opp{0, o, o, o, 2}, []bool{false, false, true}, api.Keep, o, cut, o, api.Must)
		does(t, "the last point", l, marks, []api.Opp{0, o, o, o, 2}, []bool{false, false, false, true}, api.Keep, o, o, cut, api.Must)
	}
}

// P11.1: Hyphen stands just where breaks has Keep and points true.
func TestHyphens(t *testing.T) {
	l, marks := signs("abcdefg"), all(8, api.May)
	does(t, "unlike breaks", l, marks, []api.Opp{0, 0, 1, 2, 3, 4, 0, 2}, []bool{false, true, true, true, true, true, false, false},
		api.Keep, api.Hyphen, api.May, api.Must, api.Hyphen, api.Cut, api.Keep, api.Must)
	does(t, "unlike points", l, marks, all(8, api.Keep), []bool{true, false, true, false, true, false, true, true},
		api.Keep, api.Keep, api.Hyphen, api.Keep, api.Hyphen, api.Keep, api.Hyphen, api.Must)
}

// P11.1: where breaks has no place there is Keep, with a point too.
func TestFewerBreaks(t *testing.T) {
	l, marks := signs("abcde"), all(6, api.May)
	for n := range 6 {
		for _, o := range []api.Opp{api.Keep, api.May, api.Must, api.Hyphen, 200} {
			for _, point := range []bool{false, true} {
				want := all(6, api.Keep)
				for i := 1; i < n; i++ {
					want[i] = o
					if o == api.Keep && point {
						want[i] = api.Hyphen
					}
				}
				want[5] = api.Must
				does(t, "fewer breaks", l, marks, all(n, o), all(6, point), want...)
			}
		}
	}
	does(t, "no list", l, marks, nil, all(6, true), api.Keep, api.Keep, api.Keep, api.Keep, api.Keep, api.Must)
}

// P11.1: where points has no place there is no point.
func TestFewerPoints(t *testing.T) {
	l, marks := signs("abcde"), all(6, api.May)
	for n := range 6 {
		want := all(6, api.Keep)
		for i := 1; i < n; i++ {
			want[i] = api.Hyphen
		}
		want[5] = api.Must
		does(t, "fewer points", l, marks, all(6, api.Keep), all(n, true), want...)
	}
	does(t, "no list", l, marks, all(6, api.Keep), nil, api.Keep, api.Keep, api.Keep, api.Keep, api.Keep, api.Must)
	does(t, "no list, May", l, marks, all(6, api.May), nil, api.Keep, api.May, api.May, api.May, api.May, api.Must)
}

// P11.1: breaks and points behind the signs say nothing.
func TestMoreThanSigns(t *testing.T) {
	for n := 3; n < 9; n++ {
		for _, o := range []api.Opp{api.Keep, api.May, api.Hyphen, 9} {
			breaks := append([]api.Opp{0, 0, 1}, all(n, o)...)
			points := append([]bool{false, true, true}, all(n, true)...)
			does(t, "more", signs("abc"), all(n, api.May), breaks, points, api.Keep, api.Hyphen, api.May, api.Must)
		}
	}
}

// P11.1: a boundary's place is that of the sign behind it, not the cluster's number, and not the byte's.
func TestPlacesOfSigns(t *testing.T) {
	// Clusters: signs 0 and 1, 2 to 4, 5, 6 and 7.
	l := signs("é\u0301一bc\xffde")
	marks := only(9, api.Keep, api.May, 2, 5, 6)
	for i := range 9 {
		want := all(5, api.Keep)
		hyphens := all(5, api.Keep)
		if k := slices.Index([]int{2, 5, 6}, i); k >= 0 {
			want[k+1], hyphens[k+1] = api.May, api.Hyphen
		}
		want[4], hyphens[4] = api.Must, api.Must
		does(t, "one break", l, marks, only(9, api.Keep, api.May, i), nil, want...)
		does(t, "one point", l, marks, all(9, api.Keep), only(9, false, true, i), hyphens...)
		does(t, "one of each", l, marks, only(9, api.Keep, api.May, i), only(9, false, true, i), want...)
	}
	does(t, "unlike ones", l, marks, []api.Opp{9, 9, 1, 9, 9, 0, 2, 9, 9}, []bool{true, true, true, true, true, true, false, true, true},
		api.Keep, api.May, api.Hyphen, api.Must, api.Must)
}

// P11.1: breaks and points within a cluster say nothing: only marks cut.
func TestWithinClusters(t *testing.T) {
	l := signs("abcdef")
	marks := only(7, api.Keep, api.May, 3)
	does(t, "May within", l, marks, []api.Opp{1, 1, 1, 0, 1, 1, 1}, nil, api.Keep, api.Keep, api.Must)
	does(t, "Must within", l, marks, []api.Opp{2, 2, 2, 0, 2, 2, 2}, nil, api.Keep, api.Keep, api.Must)
	does(t, "points within", l, marks, all(7, api.Keep), []bool{true, true, true, false, true, true, true}, api.Keep, api.Keep, api.Must)
	does(t, "none of the document's within", l, marks, []api.Opp{99, 99, 99, 1, 99, 99, 99}, all(7, true), api.Keep, api.May, api.Must)
	does(t, "all as one", l, nil, all(7, api.Must), all(7, true), api.Keep, api.Must)
}

// P11.1: marks are not breaks: what kind of mark cuts says nothing of what may be done.
func TestMarksAreNotBreaks(t *testing.T) {
	for o := api.Opp(1); o != 0; o++ {
		does(t, "marks", signs("abc"), all(4, o), all(4, api.Keep), nil, api.Keep, api.Keep, api.Keep, api.Must)
		does(t, "marks and a point", signs("abc"), all(4, o), all(4, api.Keep), []bool{false, false, true}, api.Keep, api.Keep, api.Hyphen, api.Must)
		does(t, "marks and a break", signs("abc"), all(4, o), []api.Opp{0, 1, 0, 0}, nil, api.Keep, api.May, api.Keep, api.Must)
	}
}

// P1: signs that no text has are taken as they come.
func TestSignsThatAreNone(t *testing.T) {
	l := []api.Scalar{{R: -1, At: -5, Len: -7}, {R: top + 1, At: math.MaxInt, Len: math.MaxInt}, {R: math.MinInt32, At: math.MinInt, Len: math.MinInt}, {R: math.MaxInt32}}
	does(t, "none", l, all(5, api.May), []api.Opp{0, 1, 0, 2}, all(5, true), api.Keep, api.May, api.Hyphen, api.Must, api.Must)
	does(t, "none, together", l, nil, all(5, api.May), all(5, true), api.Keep, api.Must)
	for _, marks := range [][]api.Opp{nil, all(5, api.May)} {
		p := items.Make(l, marks, all(5, api.May), nil, terminal(t))
		if items.Check(p) {
			t.Errorf("P11.2: %v", p)
		}
		items.Parts(p)
		items.Bytes(p)
	}
}

// P1: long rows are gone through to their end.
func TestLong(t *testing.T) {
	const n = 300000
	l := make([]api.Scalar, n)
	for i := range l {
		l[i] = api.Scalar{R: 'a', At: i, Len: 1}
	}
	want := all(n+1, api.Must)
	want[0] = api.Keep
	ends := make([]int, n)
	for i := range ends {
		ends[i] = i + 1
	}
	got := items.Make(l, all(n+1, api.May), all(n+1, api.Must), all(n+1, true), terminal(t))
	if len(got.Clusters) != n || !slices.Equal(got.Opps, want) || !slices.Equal(items.Parts(got), ends) || items.Bytes(got) != n {
		t.Errorf("P11.1: %d clusters, %d Opps, %d bytes", len(got.Clusters), len(got.Opps), items.Bytes(got))
	}
	if items.Check(got) {
		t.Errorf("P11.2: a text of %d bytes", n)
	}
}
