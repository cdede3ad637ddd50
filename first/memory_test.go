package first_test

import (
	"math"
	"slices"
	"testing"

	"stanza/api"
	"stanza/first"
	"stanza/items"
)

const memoryText = "ab |cd-eWt0|fg!hi"

func memoryWay() api.Config { return api.Config{Width: 5, Tab: 4} }

// memoryLines holds an answer of memoryText's first part.
func memoryLines(t *testing.T, what string, got []api.Line) {
	t.Helper()
	want := []api.Line{{From: 0, To: 3, Cells: 2, End: api.May}, {From: 3, To: 5, Cells: 3, End: api.Hyphen}, {From: 5, To: 9, Cells: 4, End: api.May}, {From: 9, To: 11, Cells: 2, End: api.Must}}
	if !slices.Equal(got, want) {
		t.Errorf("R6, R8: %s: %v, want %v", what, got, want)
	}
}

// spoil puts a thing at all places of a list, its spare room included.
func spoil[T any](l []T, with T) {
	l = l[:cap(l)]
	for i := range l {
		l[i] = with
	}
}

// R6: what is handed in isn't changed, spare room included; nor is that room read.
func TestHandedInStays(t *testing.T) {
	for opp := range api.Opp(6) {
		p := text(memoryText)
		p.Clusters = append(p.Clusters, cluster('W', 13), cluster('0', 14))
		p.Opps = append(p.Opps, opp, opp)
		clusters, opps := slices.Clone(p.Clusters), slices.Clone(p.Opps)
		short := api.Para{Clusters: p.Clusters[:13], Opps: p.Opps[:14]}
		memoryLines(t, "a text with spare room", first.Break(short, 0, 11, memoryWay()))
		if got := first.Break(short, 11, 13, memoryWay()); !slices.Equal(got, []api.Line{{From: 11, To: 13, Cells: 2, End: api.Must}}) {
			t.Errorf("R6: ahead of spare room: %v", got)
		}
		if !slices.Equal(p.Clusters, clusters) || !slices.Equal(p.Opps, opps) {
			t.Errorf("R6: the text became %v", p)
		}
	}
}

// R6: lines are new memory: they may be changed without changing others, or the text; a text that is changed changes no lines.
func TestLinesAreNew(t *testing.T) {
	for range 3 {
		p := text(memoryText)
		one, other := first.Break(p, 0, 11, memoryWay()), first.Break(p, 0, 11, memoryWay())
		spoil(one, api.Line{From: -1, To: -1, Cells: -1, End: 99})
		memoryLines(t, "behind a spoilt answer", other)
		memoryLines(t, "the same text behind a spoilt answer", first.Break(p, 0, 11, memoryWay()))
		spoil(first.Break(p, 11, 11, memoryWay()), api.Line{From: -1})
		if got := first.Break(p, 11, 11, memoryWay()); len(got) != 0 {
			t.Errorf("R6: of nothing, behind a spoilt answer: %v", got)
		}
		spoil(p.Clusters, cluster('W', 0))
		spoil(p.Opps, api.Cut)
		memoryLines(t, "behind a change of the text", other)
	}
}

// R8: other texts and ways that were asked for in between change no answer.
func TestAsksStandApart(t *testing.T) {
	for range 3 {
		memoryLines(t, "between other asks", first.Break(text(memoryText), 0, 11, memoryWay()))
		breaks(t, memoryText, 1, 64, "a/1", "b |1", "c/1", "d/1", "e/1", "W/2", "t/64", "0|0", "f/1", "g!1")
		breaks(t, "", 1, 1)
	}
}

// R5: a text without clusters has no lines, whether they are nil or an empty list.
func TestNoClusters(t *testing.T) {
	room := append([]api.Cluster{}, cluster('W', 0))
	for _, clusters := range [][]api.Cluster{nil, {}, room[:0]} {
		p := api.Para{Clusters: clusters, Opps: []api.Opp{api.Must}}
		for _, width := range []int{1, api.MaxWidth} {
			if got := first.Break(p, 0, 0, api.Config{Width: width, Tab: 8}); len(got) != 0 {
				t.Errorf("R5: %v", got)
			}
		}
	}
	if got := first.Break(items.Make(nil, nil, nil, nil, nil), 0, 0, memoryWay()); len(got) != 0 {
		t.Errorf("R5: as items makes it: %v", got)
	}
}

// wrongTexts are some that items.Check refuses, beside right ones.
func wrongTexts() []api.Para {
	wrong := text("abcd")
	wrong.Clusters[1] = api.Cluster{At: -1, Len: -1, Cells: math.MaxInt, Kind: 77}
	wrong.Clusters[2] = api.Cluster{Cells: math.MinInt, Kind: api.Tab}
	wrong.Clusters[3] = api.Cluster{Cells: -5}
	wrong.Opps = []api.Opp{api.Must, 9, api.Cut, 255}
	return []api.Para{{}, {Opps: []api.Opp{api.Must}}, {Opps: []api.Opp{1, 3, 2, 2}}, {Clusters: text("t W").Clusters}, text(" t0a|W-"), wrong}
}

// P1: of wrong texts and ways, and of boundaries that aren't there, nothing is promised, but every call ends and none panics.
func TestEveryCallEnds(t *testing.T) {
	ints := []int{math.MinInt, math.MinInt + 1, -4096, -1, 0, 1, 2, 3, 4, 5, 6, 7, 4096, 4097, math.MaxInt - 1, math.MaxInt}
	for _, p := range wrongTexts() {
		for _, from := range ints {
			for _, to := range ints {
				for _, width := range ints {
					for _, tab := range ints {
						first.Break(p, from, to, api.Config{Width: width, Tab: tab, Mode: 9, Hyphen: -1, Loose: math.NaN()})
					}
				}
			}
		}
	}
}
