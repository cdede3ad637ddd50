package cells_test

import (
	"math"
	"slices"
	"testing"

	"stanza/api"
	"stanza/cells"
	"stanza/prop"
	"stanza/scal"
)

const top = 0x10ffff

// signs are those of a text, as scal reads them.
func signs(text string) []api.Scalar { return scal.All([]byte(text)) }

// table is one of right ranges.
func table(t *testing.T, l ...api.Range) *prop.Table {
	t.Helper()
	p, e := prop.Make(l, 256)
	if e != api.OK {
		t.Fatalf("P2.1: %v: %d", l, e)
	}
	return p
}

// terminal says cells as a terminal has them: signs that stand on others have none, wide ones two.
func terminal(t *testing.T) *prop.Table {
	t.Helper()
	return table(t,
		api.Range{Lo: 0x20, Hi: 0x7e, To: 1},
		api.Range{Lo: 0xa0, Hi: 0x2ff, To: 1},
		api.Range{Lo: 0x300, Hi: 0x36f, To: 0},
		api.Range{Lo: 0x4e00, Hi: 0x9fff, To: 2},
		api.Range{Lo: 0xfffd, Hi: 0xfffd, To: 1},
		api.Range{Lo: 0x1f600, Hi: 0x1f64f, To: 2},
	)
}

// kept are n marks that all are Keep.
func kept(n int) []api.Opp { return make([]api.Opp, n) }

// cutAt are n+1 marks: Must behind the last sign, May at these places, else Keep.
func cutAt(n int, places ...int) []api.Opp {
	marks := make([]api.Opp, n+1)
	marks[n] = api.Must
	for _, i := range places {
		marks[i] = api.May
	}
	return marks
}

// cutAll are n+1 marks of May.
func cutAll(n int) []api.Opp { return slices.Repeat([]api.Opp{api.May}, n+1) }

// holds holds Make against what is wanted.
func holds(t *testing.T, what string, l []api.Scalar, marks []api.Opp, p *prop.Table, clusters []api.Cluster, places ...int) {
	t.Helper()
	got, at := cells.Make(l, marks, p)
	if !slices.Equal(got, clusters) {
		t.Errorf("P10.1: %s: clusters %v, want %v", what, got, clusters)
	}
	if !slices.Equal(at, places) {
		t.Errorf("P10.1: %s: places %v, want %v", what, at, places)
	}
}

// begin holds only where clusters begin.
func begin(t *testing.T, what string, l []api.Scalar, marks []api.Opp, places ...int) {
	t.Helper()
	clusters, at := cells.Make(l, marks, nil)
	if !slices.Equal(at, places) || len(clusters) != len(places)-1 {
		t.Errorf("P10.1: %s: marks %v: %d clusters, places %v, want %v", what, marks, len(clusters), at, places)
	}
}

func TestExamples(t *testing.T) {
	if cells.Wide != 2 {
		t.Errorf("P10.1: Wide is %d", cells.Wide)
	}
	holds(t, "the chapter's", signs("a\u0301 "), cutAt(3, 2), terminal(t),
		[]api.Cluster{{At: 0, Len: 3, Cells: 1}, {At: 3, Len: 1, Cells: 1, Kind: api.Space}}, 0, 2, 3)
}

// P10.1: of no sign there is no cluster, and the one number is how many signs there are.
func TestNoSign(t *testing.T) {
	for _, l := range [][]api.Scalar{nil, {}, signs("")} {
		for _, marks := range [][]api.Opp{nil, {}, {api.Keep}, {api.May}, {api.Must}, {api.Must, api.May, api.Keep, 9}} {
			for _, p := range []*prop.Table{nil, {}, table(t), terminal(t)} {
				holds(t, "no sign", l, marks, p, nil, 0)
			}
		}
	}
}

// P10.1: one sign is one cluster, whatever the marks are.
func TestOneSign(t *testing.T) {
	for _, marks := range [][]api.Opp{nil, {}, {api.Keep}, {api.May}, {api.Must}, {api.Hyphen}, {api.Cut}, {7}, {255}, {api.Keep, api.Must}, {api.Must, api.Keep}, {api.May, api.May, api.May}} {
		p := terminal(t)
		holds(t, "a", signs("a"), marks, p, []api.Cluster{{Len: 1, Cells: 1}}, 0, 1)
		holds(t, "space", signs(" "), marks, p, []api.Cluster{{Len: 1, Cells: 1, Kind: api.Space}}, 0, 1)
		holds(t, "tab", signs("\t"), marks, p, []api.Cluster{{Len: 1, Kind: api.Tab}}, 0, 1)
		holds(t, "é", signs("é"), marks, p, []api.Cluster{{Len: 2, Cells: 1}}, 0, 1)
		holds(t, "wide, of 3 bytes", signs("一"), marks, p, []api.Cluster{{Len: 3, Cells: 2}}, 0, 1)
		holds(t, "wide, of 4 bytes", signs("😀"), marks, p, []api.Cluster{{Len: 4, Cells: 2}}, 0, 1)
		holds(t, "without cells", signs("\u0301"), marks, p, []api.Cluster{{Len: 2}}, 0, 1)
		holds(t, "Bad", signs("\xff"), marks, p, []api.Cluster{{Len: 1, Cells: 1}}, 0, 1)
		holds(t, "Bad of 3 bytes", signs("\xf0\x9f\x98"), marks, p, []api.Cluster{{Len: 3, Cells: 1}}, 0, 1)
	}
}

// P10.1: a cluster begins at each sign whose mark isn't Keep, be it one of the document's or none; at the first one always.
func TestMarkOfEachKind(t *testing.T) {
	l := signs("abcd")
	for mark := api.Opp(1); mark != 0; mark++ {
		for _, first := range []api.Opp{api.Keep, mark} {
			begin(t, "at the first sign", l, []api.Opp{first, 0, 0, 0, 0}, 0, 4)
			begin(t, "at the second one", l, []api.Opp{first, mark, 0, 0, 0}, 0, 1, 4)
			begin(t, "at the third one", l, []api.Opp{first, 0, mark, 0, 0}, 0, 2, 4)
			begin(t, "at the last one", l, []api.Opp{first, 0, 0, mark, 0}, 0, 3, 4)
			begin(t, "behind it", l, []api.Opp{first, 0, 0, 0, mark}, 0, 4)
			begin(t, "at two", l, []api.Opp{first, mark, 0, mark, mark}, 0, 1, 3, 4)
			begin(t, "at all", l, []api.Opp{first, mark, mark, mark, mark}, 0, 1, 2, 3, 4)
		}
	}
	begin(t, "unlike marks", signs("abcdefg"), []api.Opp{api.Must, api.May, api.Must, api.Keep, api.Hyphen, api.Cut, 200, api.Must}, 0, 1, 2, 4, 5, 6, 7)
}

// P10.1: a mark that lacks is Keep, and marks behind the signs say nothing.
func TestFewerAndMoreMarks(t *testing.T) {
	l := signs("abcde")
	begin(t, "no list", l, nil, 0, 5)
	begin(t, "no mark", l, []api.Opp{}, 0, 5)
	for n := range 12 {
		want := []int{0}
		for i := 1; i < min(n, 5); i++ {
			want = append(want, i)
		}
		begin(t, "so many of May", l, cutAll(11)[:n], append(want, 5)...)
		begin(t, "so many of Keep", l, kept(n), 0, 5)
	}
	begin(t, "one that counts", l, []api.Opp{0, 0, 2}, 0, 2, 5)
	begin(t, "those behind the signs", l, []api.Opp{0, 0, 0, 0, 0, 1, 2, 3, 4, 5}, 0, 5)
}

// P10.1: At is the first sign's, Len all bytes from the first one to the last one.
func TestBytes(t *testing.T) {
	// Places of signs: a 0, é 1, 一 3, 😀 6, Bad 10 (1 byte), Bad 11 (3 bytes), b 14.
	l := signs("aé一😀\xff\xf0\x9f\x98b")
	p := terminal(t)
	holds(t, "each alone", l, cutAll(7), p, []api.Cluster{
		{At: 0, Len: 1, Cells: 1}, {At: 1, Len: 2, Cells: 1}, {At: 3, Len: 3, Cells: 2}, {At: 6, Len: 4, Cells: 2},
		{At: 10, Len: 1, Cells: 1}, {At: 11, Len: 3, Cells: 1}, {At: 14, Len: 1, Cells: 1},
	}, 0, 1, 2, 3, 4, 5, 6, 7)
	holds(t, "all as one", l, nil, p, []api.Cluster{{Len: 15, Cells: 2}}, 0, 7)
	holds(t, "one and several", l, cutAt(7, 1, 4), p,
		[]api.Cluster{{At: 0, Len: 1, Cells: 1}, {At: 1, Len: 9, Cells: 2}, {At: 10, Len: 5, Cells: 1}}, 0, 1, 4, 7)
	holds(t, "several and one", l, cutAt(7, 3, 5, 6), p,
		[]api.Cluster{{At: 0, Len: 6, Cells: 2}, {At: 6, Len: 5, Cells: 2}, {At: 11, Len: 3, Cells: 1}, {At: 14, Len: 1, Cells: 1}}, 0, 3, 5, 6, 7)
	holds(t, "Bad ones", signs("\xff\xff\xf0\x9f\xc3\xe4\xb8"), cutAt(5, 2, 4), p,
		[]api.Cluster{{At: 0, Len: 2, Cells: 1}, {At: 2, Len: 3, Cells: 1}, {At: 5, Len: 2, Cells: 1}}, 0, 2, 4, 5)
}

// widths is a table in which a to z are of 0, 1, 2, 3, 4, 200, 255 cells and, from h on, of none.
func widths(t *testing.T) *prop.Table {
	t.Helper()
	var l []api.Range
	for i, to := range []int{0, 1, 2, 3, 4, 200, 255} {
		l = append(l, api.Range{Lo: 'a' + int32(i), Hi: 'a' + int32(i), To: to})
	}
	return table(t, l...)
}

// P10.1: cells are the greatest of the signs', wherever it stands, and at most 2.
func TestCells(t *testing.T) {
	p := widths(t)
	for text, want := range map[string]int{
		"a": 0, "b": 1, "c": 2, "d": 2, "e": 2, "f": 2, "g": 2, "h": 0, "é": 0,
		"aa": 0, "ah": 0, "bb": 1, "bbb": 1, "cc": 2, "bbbbbbbb": 1, "hhh": 0,
		"baa": 1, "aba": 1, "aab": 1,
		"caa": 2, "aca": 2, "aac": 2, "cbb": 2, "bcb": 2, "bbc": 2, "cab": 2, "acb": 2, "abc": 2, "bac": 2, "bca": 2, "cba": 2,
		"gaa": 2, "aga": 2, "aag": 2, "gb": 2, "bg": 2, "dc": 2, "cd": 2, "gc": 2, "cg": 2, "dd": 2, "abcdefgh": 2, "hgfedcba": 2,
	} {
		n := len(signs(text))
		holds(t, text, signs(text), cutAt(n), p, []api.Cluster{{Len: len(text), Cells: want}}, 0, n)
		// What stands ahead and behind in clusters of its own is not counted.
		holds(t, "g "+text+" g", signs("g"+text+"g"), cutAt(n+2, 1, n+1), p,
			[]api.Cluster{{Len: 1, Cells: 2}, {At: 1, Len: len(text), Cells: want}, {At: 1 + len(text), Len: 1, Cells: 2}}, 0, 1, n+1, n+2)
	}
}

// P10.1, R7: of a table that says nothing, and of none, nothing has cells; the rest is the same.
func TestTableOfNothing(t *testing.T) {
	want := []api.Cluster{{Len: 3}, {At: 3, Len: 1, Kind: api.Space}, {At: 4, Len: 1, Kind: api.Tab}, {At: 5, Len: 3}, {At: 8, Len: 1}}
	for _, p := range []*prop.Table{nil, {}, table(t), table(t, api.Range{Lo: 0, Hi: top, To: 0})} {
		holds(t, "nothing said", signs("a\u0301 \t一\xff"), cutAt(6, 2, 3, 4, 5), p, want, 0, 2, 3, 4, 5, 6)
		holds(t, "nothing said, no marks", signs("一\xff"), nil, p, []api.Cluster{{Len: 4}}, 0, 2)
	}
}

// P10.1: the table is asked for all signs, blanks and Bad too, up to the last number.
func TestTableOfAll(t *testing.T) {
	p := table(t, api.Range{Lo: 0, Hi: 8, To: 1}, api.Range{Lo: 9, Hi: 32, To: 2}, api.Range{Lo: api.Bad, Hi: api.Bad, To: 2}, api.Range{Lo: top, Hi: top, To: 1})
	holds(t, "all", signs("\x00\t \xff\U0010ffffa"), cutAll(6), p, []api.Cluster{
		{At: 0, Len: 1, Cells: 1}, {At: 1, Len: 1, Cells: 2, Kind: api.Tab}, {At: 2, Len: 1, Cells: 2, Kind: api.Space},
		{At: 3, Len: 1, Cells: 2}, {At: 4, Len: 4, Cells: 1}, {At: 8, Len: 1},
	}, 0, 1, 2, 3, 4, 5, 6)
}

// P10.1: Space is the sign 32 alone, Tab the sign 9 alone, by their numbers and nothing else.
func TestKindOfOneSign(t *testing.T) {
	near := []int32{0x1680, 0x2003, 0x2409, 0x2420, 0x3000, 0xfeff, api.Bad, 0x10009, 0x10020, 0x100009, 0x100020, top, -9, -32, math.MinInt32, math.MaxInt32}
	for r := range int32(300) {
		if r != 9 && r != 32 {
			near = append(near, r)
		}
	}
	for _, p := range []*prop.Table{nil, terminal(t), table(t, api.Range{Lo: 0, Hi: top, To: 2})} {
		for _, r := range near {
			holds(t, "Plain", []api.Scalar{{R: r, At: 7, Len: 1}}, nil, p, []api.Cluster{{At: 7, Len: 1, Cells: min(p.Of(r), 2)}}, 0, 1)
		}
		holds(t, "Space", []api.Scalar{{R: 32, At: 7, Len: 1}}, nil, p, []api.Cluster{{At: 7, Len: 1, Cells: p.Of(32), Kind: api.Space}}, 0, 1)
		holds(t, "Tab", []api.Scalar{{R: 9, At: 7, Len: 1}}, nil, p, []api.Cluster{{At: 7, Len: 1, Cells: p.Of(9), Kind: api.Tab}}, 0, 1)
	}
}

// P10.1: with another sign, ahead or behind, a blank is Plain: with itself too, and with one that has no cells.
func TestKindOfSeveralSigns(t *testing.T) {
	p := terminal(t)
	for _, blank := range []string{" ", "\t"} {
		for _, other := range []string{" ", "\t", "a", "\u0301", "\u200d", "\n", "\x00", "\xff", "一"} {
			for _, text := range []string{blank + other, other + blank, other + blank + other, blank + other + blank, blank + blank + other} {
				l := signs(text)
				clusters, places := cells.Make(l, cutAt(len(l)), p)
				if len(clusters) != 1 || clusters[0].Kind != api.Plain || clusters[0].Len != len(text) || !slices.Equal(places, []int{0, len(l)}) {
					t.Errorf("P10.1: %q: %v, %v", text, clusters, places)
				}
			}
		}
	}
	// The same blanks, apart.
	l := signs("  \t\ta \t\u0301")
	holds(t, "apart", l, cutAll(8), p, []api.Cluster{
		{At: 0, Len: 1, Cells: 1, Kind: api.Space}, {At: 1, Len: 1, Cells: 1, Kind: api.Space}, {At: 2, Len: 1, Kind: api.Tab}, {At: 3, Len: 1, Kind: api.Tab},
		{At: 4, Len: 1, Cells: 1}, {At: 5, Len: 1, Cells: 1, Kind: api.Space}, {At: 6, Len: 1, Kind: api.Tab}, {At: 7, Len: 2},
	}, 0, 1, 2, 3, 4, 5, 6, 7, 8)
	holds(t, "some together", l, cutAt(8, 1, 3, 5, 6), p, []api.Cluster{
		{At: 0, Len: 1, Cells: 1, Kind: api.Space}, {At: 1, Len: 2, Cells: 1}, {At: 3, Len: 2, Cells: 1},
		{At: 5, Len: 1, Cells: 1, Kind: api.Space}, {At: 6, Len: 3},
	}, 0, 1, 3, 5, 6, 8)
}

// P1: signs that no text has are taken as they come.
func TestSignsThatAreNone(t *testing.T) {
	p := table(t, api.Range{Lo: 0, Hi: top, To: 1})
	holds(t, "numbers that are none", []api.Scalar{{R: -1}, {R: top + 1}, {R: math.MinInt32}, {R: math.MaxInt32}, {R: top}}, cutAll(5), p,
		[]api.Cluster{{}, {}, {}, {}, {Cells: 1}}, 0, 1, 2, 3, 4, 5)
	holds(t, "places that are none", []api.Scalar{{R: 32, At: -5, Len: -7}, {R: 9, At: math.MaxInt, Len: 0}, {R: 'a', At: math.MinInt, Len: 1 << 40}}, cutAll(3), p,
		[]api.Cluster{{At: -5, Len: -7, Cells: 1, Kind: api.Space}, {At: math.MaxInt, Cells: 1, Kind: api.Tab}, {At: math.MinInt, Len: 1 << 40, Cells: 1}}, 0, 1, 2, 3)
	for _, n := range []int{math.MaxInt, math.MinInt} {
		l := []api.Scalar{{R: 'a', At: n, Len: n}, {R: 'b', At: n, Len: n}, {R: 'c', At: n, Len: n}}
		if clusters, places := cells.Make(l, nil, p); len(clusters) != 1 || !slices.Equal(places, []int{0, 3}) {
			t.Errorf("P1: %d clusters, %v", len(clusters), places)
		}
	}
}

// P1: long rows of signs are gone through to their end, as one cluster and as many.
func TestLong(t *testing.T) {
	const n = 300000
	l := make([]api.Scalar, n)
	for i := range l {
		l[i] = api.Scalar{R: 'é', At: 2 * i, Len: 2}
	}
	l[n-1].R = '一'
	p := terminal(t)
	holds(t, "one long cluster", l, kept(n), p, []api.Cluster{{Len: 2 * n, Cells: 2}}, 0, n)
	clusters, places := cells.Make(l, cutAll(n), p)
	if len(clusters) != n || len(places) != n+1 {
		t.Fatalf("P10.1: %d clusters, %d numbers", len(clusters), len(places))
	}
	for i, c := range clusters {
		if want := (api.Cluster{At: 2 * i, Len: 2, Cells: 1 + i/(n-1)}); c != want || places[i] != i {
			t.Fatalf("P10.1: cluster %d at %d: %v, want %v", i, places[i], c, want)
		}
	}
	if places[n] != n {
		t.Errorf("P10.1: the last number is %d", places[n])
	}
}
