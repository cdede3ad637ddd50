package draw_test

import (
	"bytes"
	"math"
	"slices"
	"strings"
	"testing"

	"stanza/api"
	"stanza/draw"
	"stanza/lines"
)

// memoryText has four parts, in seven rows; one of them is of one cluster.
const memoryText = "a b c |dtW-EE fghij?!0k !N!W"

func memoryWay() api.Config { return way(7) }

// memoryRows are the rows of memoryText, as they are and filled.
func memoryRows(full bool) [][]byte {
	first := "a b c"
	if full {
		first = "a  b  c"
	}
	var l [][]byte
	for _, row := range []string{first, "d   W-", "EE fghi", "j?", "0k", "", "W"} {
		l = append(l, []byte(seen(row)))
	}
	return l
}

// memoryHolds holds Row and All of all lines of memoryText.
func memoryHolds(t *testing.T, what string, text []byte, p api.Para, l []api.Line) {
	t.Helper()
	for _, full := range []bool{false, true} {
		want := memoryRows(full)
		if got := draw.All(text, p, l, memoryWay(), full); !equal(got, want) {
			t.Errorf("R6, R8: %s: %q, want %q", what, got, want)
		}
		for i, line := range l {
			if got := draw.Row(text, p, line, memoryWay(), full); !bytes.Equal(got, want[i]) {
				t.Errorf("R6, R8: %s: %v: %q, want %q", what, line, got, want[i])
			}
		}
	}
}

// memoryMade is memoryText, its clusters and its lines.
func memoryMade(t *testing.T) ([]byte, api.Para, []api.Line) {
	t.Helper()
	text, p := read(memoryText)
	right(t, text, p, memoryWay())
	l, _ := lines.Break(p, memoryWay())
	if len(l) != 7 {
		t.Fatalf("lines %v", l)
	}
	return text, p, l
}

// spoil puts a thing at all places of a list, its spare room included.
func spoil[T any](l []T, with T) {
	l = l[:cap(l)]
	for i := range l {
		l[i] = with
	}
}

// R6: what is handed in isn't changed, spare room included; nor is that room read.
func TestWhatIsHandedInStays(t *testing.T) {
	for _, letter := range []byte(sorts + more) {
		text, p, l := memoryMade(t)
		n, k, rows := len(p.Clusters), len(text), len(l)
		p.Clusters = append(p.Clusters, cluster(letter, k), cluster('W', k+1))
		p.Opps = append(p.Opps, api.May, api.Must)
		text = append(text, "spare room"...)
		l = append(l, api.Line{From: n, To: n + 2, Cells: 3, End: api.Hyphen})
		clusters, opps, had, told := slices.Clone(p.Clusters), slices.Clone(p.Opps), slices.Clone(l), bytes.Clone(text)
		memoryHolds(t, "with spare room", text[:k], api.Para{Clusters: p.Clusters[:n], Opps: p.Opps[:n+1]}, l[:rows])
		if !slices.Equal(p.Clusters, clusters) || !slices.Equal(p.Opps, opps) || !slices.Equal(l, had) || !bytes.Equal(text, told) {
			t.Errorf("R6: the text became %q, its clusters %v, the lines %v", text, p, l)
		}
	}
}

// R6: rows are new memory: they may be changed, and appended to, without changing others, what was handed in, or what is asked for later.
func TestRowsAreNew(t *testing.T) {
	text, p, l := memoryMade(t)
	told, clusters := bytes.Clone(text), slices.Clone(p.Clusters)
	for _, full := range []bool{false, true, false, true} {
		for i, line := range l {
			one, other := draw.Row(text, p, line, memoryWay(), full), draw.Row(text, p, line, memoryWay(), full)
			spoil(one, '#')
			spoil(append(one, "#####"...), '#')
			if !bytes.Equal(other, memoryRows(full)[i]) {
				t.Errorf("R6: spoilt with another one: %q", other)
			}
			spoil(other, '*')
		}
		if !bytes.Equal(text, told) || !slices.Equal(p.Clusters, clusters) {
			t.Errorf("R6: the text became %q, its clusters %v", text, p.Clusters)
		}
		memoryHolds(t, "behind spoilt rows", text, p, l)
	}
}

// R6: the rows of All are each for itself: one may be changed, and appended to, without changing another one.
func TestRowsOfAllAreNew(t *testing.T) {
	text, p, l := memoryMade(t)
	told := bytes.Clone(text)
	for _, full := range []bool{false, true} {
		for i := range l {
			rows, want := draw.All(text, p, l, memoryWay(), full), memoryRows(full)
			rows[i] = append(rows[i], "#####"...)
			want[i] = append(want[i], "#####"...)
			if !equal(rows, want) {
				t.Errorf("R6: behind row %d was appended to: %q", i, rows)
			}
			spoil(rows[i], '#')
			want[i] = bytes.Repeat([]byte{'#'}, len(want[i]))
			if !equal(rows, want) {
				t.Errorf("R6: behind row %d was changed: %q", i, rows)
			}
			other := draw.All(text, p, l, memoryWay(), full)
			spoil(rows, []byte("##"))
			if !equal(other, memoryRows(full)) {
				t.Errorf("R6: behind other rows were changed: %q", other)
			}
		}
		if !bytes.Equal(text, told) {
			t.Errorf("R6: the text became %q", text)
		}
		memoryHolds(t, "behind spoilt rows of all", text, p, l)
	}
}

// R6: of one line twice there are two rows; so there are of what is one row long.
func TestRowsOfOneLine(t *testing.T) {
	text, p := read("abc def")
	l := []api.Line{{To: 7, Cells: 7, End: api.Must}, {To: 7, Cells: 7, End: api.Must}, {To: 3, Cells: 3, End: api.Cut}}
	rows := draw.All(text, p, l, way(9), true)
	spoil(rows[0], '#')
	if string(rows[1]) != "abc def" || string(rows[2]) != "abc" || string(text) != "abc def" {
		t.Errorf("R6: %q, the text %q", rows, text)
	}
}

// R6: nothing of what was handed in is kept: what is changed behind a call changes no answer.
func TestNothingIsKept(t *testing.T) {
	for _, full := range []bool{false, true} {
		text, p, l := memoryMade(t)
		rows := draw.All(text, p, l, memoryWay(), full)
		row := draw.Row(text, p, l[0], memoryWay(), full)
		spoil(text, '#')
		spoil(p.Clusters, cluster('W', 0))
		spoil(p.Opps, api.Cut)
		spoil(l, api.Line{})
		if !equal(rows, memoryRows(full)) || !bytes.Equal(row, memoryRows(full)[0]) {
			t.Errorf("R6: behind a change of what was handed in: %q, %q", rows, row)
		}
	}
	text, p, l := memoryMade(t)
	memoryHolds(t, "behind a change of another one", text, p, l)
}

// R8: other rows that were asked for in between change no answer.
func TestAsksStandApart(t *testing.T) {
	text, p, l := memoryMade(t)
	for range 3 {
		memoryHolds(t, "between other asks", text, p, l)
		draws(t, "a b |ccccc", way(6), "a b", "a    b", "ccccc", "ccccc")
		draws(t, "", way(1))
		alls(t, "a-b", tabbed(way(2), 9), "ab")
	}
}

// R5: the line of nothing has no bytes but the hyphen, whether text and clusters are nil or empty lists, and at each boundary of a text.
func TestLinesOfNothing(t *testing.T) {
	room := []api.Cluster{cluster('a', 0), cluster(' ', 1)}
	for _, clusters := range [][]api.Cluster{nil, {}, room[:0]} {
		for _, text := range [][]byte{nil, {}, []byte("ab")[:0]} {
			holdNothing(t, text, api.Para{Clusters: clusters, Opps: []api.Opp{api.Must}}, 0)
		}
	}
	text, p, _ := memoryMade(t)
	for at := range p.Opps {
		holdNothing(t, text, p, at)
	}
}

func holdNothing(t *testing.T, text []byte, p api.Para, at int) {
	t.Helper()
	for end, want := range map[api.Opp]string{api.May: "", api.Must: "", api.Cut: "", api.Hyphen: "-"} {
		for _, full := range []bool{false, true} {
			if got := string(draw.Row(text, p, api.Line{From: at, To: at, Cells: len(want), End: end}, way(9), full)); got != want {
				t.Errorf("R5: %q from %d to itself, ended by %d", got, at, end)
			}
		}
	}
}

// P1: a text that has fewer bytes than its clusters, or more: no call panics; of a cluster there are the bytes that the text has, and none of its spare room.
func TestOtherTexts(t *testing.T) {
	_, p := read("aW E?b")
	whole := "a\u65e5 e\u0301\xf0\x9fb"
	l := api.Line{To: 6, Cells: 7, End: api.Hyphen}
	for n := range len(whole) + 1 {
		text := []byte(whole + "spare room")[:n]
		want := whole[:n]
		if n < 5 {
			// The space is drawn whether or not the text has its byte.
			want = whole[:min(n, 4)] + " "
		}
		if got := string(draw.Row(text, p, l, way(8), false)); got != want+"-" {
			t.Errorf("P1: %q of %q, want %q", got, text, want)
		}
		rows := draw.All(text, p, []api.Line{l, l}, way(8), true)
		if len(rows) != 2 || string(rows[0]) != want+"-" || string(rows[1]) != want+"-" {
			t.Errorf("P1: %q of %q, want %q", rows, text, want)
		}
	}
	if got := string(draw.Row(nil, p, l, way(8), false)); got != " -" {
		t.Errorf("P1: %q of no text", got)
	}
	if got := string(draw.Row([]byte(whole+"more"), p, l, way(8), false)); got != whole+"-" {
		t.Errorf("P1: %q of a longer text", got)
	}
}

var ints = []int{math.MinInt, -4096, -1, 0, 1, 2, 4, 5, 4096, 1 << 20, math.MaxInt}

// wrongTexts are some that items.Check refuses, beside right ones.
func wrongTexts() []api.Para {
	_, wrong := read("ab d")
	wrong.Clusters[1] = api.Cluster{At: -1, Len: -1, Cells: math.MaxInt, Kind: 77}
	wrong.Clusters[2] = api.Cluster{At: math.MaxInt, Len: math.MaxInt, Cells: math.MinInt, Kind: api.Tab}
	wrong.Clusters[3] = api.Cluster{At: 1, Len: math.MaxInt, Cells: 5}
	wrong.Opps = []api.Opp{api.Must, 9, api.Cut, 255}
	_, ahead := read("abcd")
	ahead.Clusters[0].At, ahead.Clusters[1].Len, ahead.Clusters[2].At, ahead.Clusters[3].Len = -1, -1, math.MinInt, math.MinInt
	_, few := read("t W")
	_, some := read(" t0a|W-")
	_, many := read(strings.Repeat(" ", 5000) + "a")
	return []api.Para{{}, {Opps: []api.Opp{api.Must}}, {Opps: []api.Opp{1, 3, 2, 2}}, {Clusters: few.Clusters}, wrong, ahead, some, many}
}

// P1: of wrong texts and ways, and of boundaries that aren't there, nothing is promised, but every call ends and none panics.
func TestEveryCallEnds(t *testing.T) {
	texts := [][]byte{nil, []byte("x"), []byte("abcdefgh")[:4], []byte(memoryText)}
	for _, p := range wrongTexts() {
		for i, from := range ints {
			for j, to := range ints {
				for k, text := range texts {
					c := api.Config{Width: ints[(i+k)%len(ints)], Tab: ints[(i+j+k)%len(ints)], Mode: 9}
					l := api.Line{From: from, To: to, Cells: c.Width, End: api.Opp((i + j + 2*k) % 6)}
					draw.Row(text, p, l, c, (j+k)%2 == 0)
					if k == i%len(texts) {
						draw.All(text, p, []api.Line{l, {From: to, To: from}}, c, j%2 == 0)
					}
				}
			}
		}
	}
}
