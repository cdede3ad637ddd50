package lines_test

import (
	"math"
	"slices"
	"testing"

	"stanza/api"
	"stanza/lines"
)

// memoryText has three parts; the second one can't be broken in mode Best.
const memoryText = "a b|c-de!fghijW!0k"

func memoryWay() api.Config { return hyphens(5, 3, 9) }

func memoryLines() []api.Line {
	return []api.Line{
		{To: 4, Cells: 5, End: api.Hyphen}, {From: 4, To: 6, Cells: 2, End: api.Must},
		{From: 6, To: 11, Cells: 5, End: api.Cut}, {From: 11, To: 12, Cells: 2, End: api.Must}, {From: 12, To: 14, Cells: 1, End: api.Must},
	}
}

func memoryRows() []api.Row {
	return []api.Row{
		{To: 4, Cells: 5, End: api.Hyphen}, {From: 4, To: 6, Cells: 2, End: api.Must},
		{From: 6, To: 11, Cells: 5, End: api.Cut}, {From: 11, To: 14, Cells: 2, End: api.Must}, {From: 14, To: 17, Cells: 1, End: api.Must},
	}
}

// memoryHolds holds all calls' answers of memoryText.
func memoryHolds(t *testing.T, what string, p api.Para) {
	t.Helper()
	c, want := memoryWay(), memoryLines()
	if got, told := lines.Break(p, c); !told || !slices.Equal(got, want) {
		t.Errorf("R6, R8: %s: Break: %v, %v", what, got, told)
	}
	if got, told := lines.Part(p, 0, 6, c); told || !slices.Equal(got, want[:2]) {
		t.Errorf("R6, R8: %s: Part, as Best: %v, %v", what, got, told)
	}
	if got, told := lines.Part(p, 6, 12, c); !told || !slices.Equal(got, want[2:4]) {
		t.Errorf("R6, R8: %s: Part, loose: %v, %v", what, got, told)
	}
	if got, told := lines.Part(p, 12, 14, longest(c)); told || !slices.Equal(got, want[4:]) {
		t.Errorf("R6, R8: %s: Part, as First: %v, %v", what, got, told)
	}
	if got := lines.Rows(p, want); !slices.Equal(got, memoryRows()) {
		t.Errorf("R6, R8: %s: Rows: %v", what, got)
	}
	if n, ok := lines.Cost(p, want[:2], c); n != 203 || !ok {
		t.Errorf("R6, R8: %s: Cost: %d, %v", what, n, ok)
	}
	if n, ok := lines.Cost(p, want, c); n != 0 || ok {
		t.Errorf("R6, R8, R3: %s: Cost of all: %d, %v", what, n, ok)
	}
}

// spoil puts a thing at all places of a list, its spare room included.
func spoil[T any](l []T, with T) {
	l = l[:cap(l)]
	for i := range l {
		l[i] = with
	}
}

// R6: the text that is handed in isn't changed, spare room included; nor is that room read.
func TestTextStays(t *testing.T) {
	for opp := range api.Opp(6) {
		p := text(memoryText)
		p.Clusters = append(p.Clusters, cluster('W', 17), cluster('0', 20))
		p.Opps = append(p.Opps, opp, opp)
		clusters, opps := slices.Clone(p.Clusters), slices.Clone(p.Opps)
		memoryHolds(t, "a text with spare room", api.Para{Clusters: p.Clusters[:14], Opps: p.Opps[:15]})
		if !slices.Equal(p.Clusters, clusters) || !slices.Equal(p.Opps, opps) {
			t.Errorf("R6: the text became %v", p)
		}
	}
}

// R6: lines that are handed in aren't changed, spare room included; nor is that room read.
func TestLinesStay(t *testing.T) {
	l := append(memoryLines(), api.Line{From: -1, To: 99, Cells: -7, End: 99}, api.Line{})
	had := slices.Clone(l)
	if got := lines.Rows(text(memoryText), l[:5]); !slices.Equal(got, memoryRows()) {
		t.Errorf("R6: Rows: %v", got)
	}
	if got := lines.Rows(text(memoryText), l[:0]); !slices.Equal(got, []api.Row{{End: api.Must}}) {
		t.Errorf("R6: Rows of none: %v", got)
	}
	for n, want := range []int{0, 103, 203, never} {
		holdSum(t, text(memoryText), l[:n], memoryWay(), want)
	}
	if !slices.Equal(l, had) {
		t.Errorf("R6: the lines became %v", l)
	}
}

// R6: answers are new memory: they may be changed without changing others, what was handed in, or what is asked for later.
func TestAnswersAreNew(t *testing.T) {
	p, c := text(memoryText), memoryWay()
	wrongLine, wrongRow := api.Line{From: -1, To: -1, Cells: -1, End: 99}, api.Row{From: -1, To: -1, Cells: -1, End: 99}
	for range 3 {
		one, _ := lines.Break(p, c)
		other, _ := lines.Break(p, c)
		rows, others := lines.Rows(p, other), lines.Rows(p, other)
		none, nones := lines.Rows(p, nil), lines.Rows(p, nil)
		spoil(one, wrongLine)
		spoil(rows, wrongRow)
		spoil(none, wrongRow)
		for _, from := range []int{0, 6, 12, 14} {
			for _, c := range []api.Config{c, longest(c)} {
				l, _ := lines.Part(p, from, must(p, from), c)
				spoil(l, wrongLine)
			}
		}
		if !slices.Equal(other, memoryLines()) || !slices.Equal(others, memoryRows()) || !slices.Equal(nones, []api.Row{{End: api.Must}}) {
			t.Errorf("R6: spoilt with another one: %v, %v, %v", other, others, nones)
		}
		memoryHolds(t, "behind spoilt answers", p)
	}
}

// R6: nothing of what was handed in is kept: a text and lines that are changed change no answer.
func TestNothingIsKept(t *testing.T) {
	p := text(memoryText)
	l, _ := lines.Break(p, memoryWay())
	rows := lines.Rows(p, l)
	had := slices.Clone(l)
	spoil(p.Clusters, cluster('W', 0))
	spoil(p.Opps, api.Cut)
	if !slices.Equal(l, had) {
		t.Errorf("R6: lines behind a change of the text: %v", l)
	}
	spoil(l, api.Line{From: -1})
	if !slices.Equal(rows, memoryRows()) {
		t.Errorf("R6: rows behind a change of the text and of the lines: %v", rows)
	}
}

// R8: other texts and ways that were asked for in between change no answer.
func TestAsksStandApart(t *testing.T) {
	for range 3 {
		memoryHolds(t, "between other asks", text(memoryText))
		breaks(t, words, way(9), false, "aaa bbb |7", "c dddd |6", "eeeeeeeee!9")
		breaks(t, "W!a", way(1), true, "W!2", "a!1")
		breaks(t, "", way(1), false)
		costs(t, "ab|cd", way(1), never, 2, 4)
	}
}

// R5: a text without clusters has no lines and one row, whether its clusters are nil or an empty list.
func TestNoClusters(t *testing.T) {
	room := append([]api.Cluster{}, cluster('W', 0))
	for _, clusters := range [][]api.Cluster{nil, {}, room[:0]} {
		p := api.Para{Clusters: clusters, Opps: []api.Opp{api.Must}}
		for _, c := range []api.Config{way(1), loose(1, below), longest(way(api.MaxWidth))} {
			right(t, p, c)
			hold(t, p, c)
			if got, told := lines.Part(p, 0, 0, c); len(got) != 0 || told {
				t.Errorf("R5: Part: %v, %v", got, told)
			}
			if got, told := lines.Break(p, c); len(got) != 0 || told {
				t.Errorf("R5: Break: %v, %v", got, told)
			}
			for _, l := range [][]api.Line{nil, {}} {
				if got := lines.Rows(p, l); !slices.Equal(got, []api.Row{{End: api.Must}}) {
					t.Errorf("R5: Rows: %v", got)
				}
				holdSum(t, p, l, c, 0)
			}
		}
	}
}

// wrongTexts are some that items.Check refuses, beside right ones.
func wrongTexts() []api.Para {
	wrong := text("abcd")
	wrong.Clusters[1] = api.Cluster{At: -1, Len: -1, Cells: math.MaxInt, Kind: 77}
	wrong.Clusters[2] = api.Cluster{At: math.MaxInt, Len: math.MaxInt, Cells: math.MinInt, Kind: api.Tab}
	wrong.Clusters[3] = api.Cluster{Cells: -5}
	wrong.Opps = []api.Opp{api.Must, 9, api.Cut, 255}
	early := text("a b")
	early.Opps = []api.Opp{api.Must, api.Must, api.Hyphen, api.Keep}
	return []api.Para{{}, {Opps: []api.Opp{api.Must}}, {Opps: []api.Opp{1, 3, 2, 2}}, {Clusters: text("t W").Clusters}, text(" t0a|W-"), wrong, early}
}

// P1: of wrong texts and ways, of boundaries that aren't there, and of lines of no text nothing is promised, but every call ends and none panics.
func TestEveryCallEnds(t *testing.T) {
	ints := []int{math.MinInt, math.MinInt + 1, -4096, -1, 0, 1, 2, 3, 4, 5, 6, 7, 4096, 4097, math.MaxInt - 1, math.MaxInt}
	for _, p := range wrongTexts() {
		for i, from := range ints {
			for j, to := range ints {
				l := []api.Line{{From: from, To: to, Cells: from, End: 77}, {From: to, To: from, Cells: to}}
				if got := lines.Rows(p, l); len(got) != 2 {
					t.Errorf("%d rows of two lines", len(got))
				}
				for _, width := range ints {
					c := api.Config{Width: width, Tab: ints[(i+j)%len(ints)], Hyphen: -1, Pair: math.MaxInt, Loose: looses[(i+j)%len(looses)]}
					for _, c.Mode = range []api.Mode{api.First, api.Best, 9, 255} {
						lines.Part(p, from, to, c)
						lines.Break(p, c)
						lines.Cost(p, l, c)
					}
				}
			}
		}
	}
}
