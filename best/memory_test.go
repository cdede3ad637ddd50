package best_test

import (
	"math"
	"slices"
	"testing"

	"stanza/api"
	"stanza/best"
	"stanza/items"
)

const memoryText = "x-a b|c-de!fg"

func memoryWay() api.Config { return hyphens(5, 3, 9) }

// memoryLines holds an answer of memoryText's first part, from its first hyphen on.
func memoryLines(t *testing.T, what string, got []api.Line, ok bool) {
	t.Helper()
	want := []api.Line{{From: 1, To: 5, Cells: 5, End: api.Hyphen}, {From: 5, To: 7, Cells: 2, End: api.Must}}
	if !ok || !slices.Equal(got, want) {
		t.Errorf("R6, R8: %s: %v, %v, want %v", what, got, ok, want)
	}
}

// memoryCost holds the cost of its first line.
func memoryCost(t *testing.T, what string, n int, ok bool) {
	t.Helper()
	if n != 112 || !ok {
		t.Errorf("R6, R8: %s: %d, %v, want 112", what, n, ok)
	}
}

// spoil puts a thing at all places of a list, its spare room included.
func spoil[T any](l []T, with T) {
	l = l[:cap(l)]
	for i := range l {
		l[i] = with
	}
}

// R6: what is handed in isn't changed, spare room included; nor is that room read.
func TestHandedInStays(t *testing.T) {
	for opp := range api.Opp(6) {
		p := text(memoryText)
		p.Clusters = append(p.Clusters, cluster('W', 9), cluster('0', 10))
		p.Opps = append(p.Opps, opp, opp)
		clusters, opps := slices.Clone(p.Clusters), slices.Clone(p.Opps)
		short := api.Para{Clusters: p.Clusters[:9], Opps: p.Opps[:10]}
		lines, ok := best.Break(short, 1, 7, memoryWay())
		memoryLines(t, "a text with spare room", lines, ok)
		lines, ok = best.Break(short, 7, 9, memoryWay())
		if !ok || !slices.Equal(lines, []api.Line{{From: 7, To: 9, Cells: 2, End: api.Must}}) {
			t.Errorf("R6: ahead of spare room: %v, %v", lines, ok)
		}
		n, ok := best.Cost(short, 1, 5, false, memoryWay())
		memoryCost(t, "a text with spare room", n, ok)
		if !slices.Equal(p.Clusters, clusters) || !slices.Equal(p.Opps, opps) {
			t.Errorf("R6: the text became %v", p)
		}
	}
}

// R6: lines are new memory: they may be changed without changing others, or the text; a text that is changed changes no lines.
func TestLinesAreNew(t *testing.T) {
	for range 3 {
		p := text(memoryText)
		one, _ := best.Break(p, 1, 7, memoryWay())
		other, ok := best.Break(p, 1, 7, memoryWay())
		spoil(one, api.Line{From: -1, To: -1, Cells: -1, End: 99})
		memoryLines(t, "behind a spoilt answer", other, ok)
		again, ok := best.Break(p, 1, 7, memoryWay())
		memoryLines(t, "the same text behind a spoilt answer", again, ok)
		nothing, _ := best.Break(p, 7, 7, memoryWay())
		spoil(nothing, api.Line{From: -1})
		if got, ok := best.Break(p, 7, 7, memoryWay()); len(got) != 0 || !ok {
			t.Errorf("R6: of nothing, behind a spoilt answer: %v, %v", got, ok)
		}
		none, _ := best.Break(p, 1, 7, way(1))
		spoil(none, api.Line{From: -1})
		if got, ok := best.Break(p, 1, 7, way(1)); len(got) != 0 || ok {
			t.Errorf("R6: none, behind a spoilt answer: %v, %v", got, ok)
		}
		spoil(p.Clusters, cluster('W', 0))
		spoil(p.Opps, api.Cut)
		memoryLines(t, "behind a change of the text", other, ok)
	}
}

// R8: other texts and ways that were asked for in between change no answer.
func TestAsksStandApart(t *testing.T) {
	for range 3 {
		lines, ok := best.Break(text(memoryText), 1, 7, memoryWay())
		memoryLines(t, "between other asks", lines, ok)
		n, ok := best.Cost(text(memoryText), 1, 5, false, memoryWay())
		memoryCost(t, "between other asks", n, ok)
		breaks(t, memoryText, way(2))
		breaks(t, words, way(9), "aaa bbb |7", "c dddd |6", "eeeeeeeee!9")
		costs(t, memoryText, 1, 5, false, way(2), never)
	}
}

// R5: a text without clusters has no lines, whether they are nil or an empty list; that is no lack. No line is there that would cost something.
func TestNoClusters(t *testing.T) {
	room := append([]api.Cluster{}, cluster('W', 0))
	for _, clusters := range [][]api.Cluster{nil, {}, room[:0]} {
		p := api.Para{Clusters: clusters, Opps: []api.Opp{api.Must}}
		for _, c := range []api.Config{way(1), way(api.MaxWidth), loose(1, below)} {
			if got, ok := best.Break(p, 0, 0, c); len(got) != 0 || !ok {
				t.Errorf("R5: %v, %v", got, ok)
			}
			for _, last := range []bool{false, true} {
				if n, ok := best.Cost(p, 0, 0, last, c); n != 0 || ok {
					t.Errorf("R5: %d, %v", n, ok)
				}
			}
		}
	}
	if got, ok := best.Break(items.Make(nil, nil, nil, nil, nil), 0, 0, memoryWay()); len(got) != 0 || !ok {
		t.Errorf("R5: as items makes it: %v, %v", got, ok)
	}
}

// wrongTexts are some that items.Check refuses, beside right ones.
func wrongTexts() []api.Para {
	wrong := text("abcd")
	wrong.Clusters[1] = api.Cluster{At: -1, Len: -1, Cells: math.MaxInt, Kind: 77}
	wrong.Clusters[2] = api.Cluster{Cells: math.MinInt, Kind: api.Tab}
	wrong.Clusters[3] = api.Cluster{Cells: -5}
	wrong.Opps = []api.Opp{api.Must, 9, api.Cut, 255}
	return []api.Para{{}, {Opps: []api.Opp{api.Must}}, {Opps: []api.Opp{1, 3, 2, 2}}, {Clusters: text("t W").Clusters}, text(" t0a|W-"), wrong}
}

// P1: of wrong texts and ways, and of boundaries that aren't there, nothing is promised, but every call ends and none panics.
func TestEveryCallEnds(t *testing.T) {
	ints := []int{math.MinInt, math.MinInt + 1, -4096, -1, 0, 1, 2, 3, 4, 5, 6, 7, 4096, 4097, math.MaxInt - 1, math.MaxInt}
	for _, p := range wrongTexts() {
		for i, from := range ints {
			for _, to := range ints {
				for _, width := range ints {
					for j, tab := range ints {
						c := api.Config{Width: width, Tab: tab, Mode: 9, Hyphen: -1, Pair: math.MaxInt, Loose: looses[(i+j)%len(looses)]}
						best.Break(p, from, to, c)
						best.Cost(p, from, to, i%2 == 0, c)
					}
				}
			}
		}
	}
}
