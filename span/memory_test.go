package span_test

import (
	"math"
	"slices"
	"testing"

	"stanza/api"
	"stanza/span"
)

// roomy gives a list spare room that is filled with a thing.
func roomy[T any](l []T, with T) []T {
	whole := append(slices.Clone(l), with, with, with)
	return whole[:len(l)]
}

// sameRoom holds a list and its spare room against what roomy made.
func sameRoom[T comparable](got, l []T, with T) bool {
	return len(got) == len(l) && slices.Equal(got[:len(l)+3], append(slices.Clone(l), with, with, with))
}

// fill puts a thing at all places of a list, its spare room included.
func fill[T any](l []T, with T) {
	for i := range l[:cap(l)] {
		l[:cap(l)][i] = with
	}
}

func memoryText() api.Para { return with(text("a tb0 "), 0, 0, 1, 1, 3, 1, 2) }

// memoryHolds asks all calls of memoryText.
func memoryHolds(t *testing.T, p api.Para) {
	t.Helper()
	if l := span.Columns(p, 0, 6, 4); !slices.Equal(l, []int{0, 1, 2, 4, 5, 5, 6}) {
		t.Errorf("R8: Columns %v", l)
	}
	if span.Trim(p, 0, 6) != 4 || span.Cells(p, 0, 6, api.Hyphen, 4) != 6 || span.Gaps(p, 0, 6) != 1 {
		t.Errorf("R8: %d, %d, %d", span.Trim(p, 0, 6), span.Cells(p, 0, 6, api.Hyphen, 4), span.Gaps(p, 0, 6))
	}
	ends(t, p, 4, api.Hyphen, true)
	if l := span.Make(p, 1, 6, api.Must, 4); l != (api.Line{From: 1, To: 6, Cells: 5, End: api.Must}) {
		t.Errorf("R8: Make %v", l)
	}
}

// R6: what is handed in isn't changed, spare room included; nor is that room read.
func TestHandedInStays(t *testing.T) {
	more := cluster('W')
	for _, o := range opps() {
		p := api.Para{Clusters: roomy(memoryText().Clusters, more), Opps: roomy(memoryText().Opps, o)}
		memoryHolds(t, p)
		if !sameRoom(p.Clusters, memoryText().Clusters, more) || !sameRoom(p.Opps, memoryText().Opps, o) {
			t.Errorf("R6: the text became %v", p)
		}
	}
}

// R6: what Columns answers is new memory: it may be changed without changing another answer, or the text; a text that is changed changes no answer.
func TestColumnsAreNew(t *testing.T) {
	p := memoryText()
	for range 3 {
		first, second := span.Columns(p, 0, 6, 4), span.Columns(p, 0, 6, 4)
		fill(first, -1)
		if !slices.Equal(second, []int{0, 1, 2, 4, 5, 5, 6}) {
			t.Errorf("R6: two answers share memory: %v", second)
		}
		memoryHolds(t, p)
		fill(p.Clusters, cluster('W'))
		fill(p.Opps, api.Cut)
		if !slices.Equal(second, []int{0, 1, 2, 4, 5, 5, 6}) {
			t.Errorf("R6: an answer hangs on what was handed in: %v", second)
		}
		p = memoryText()
	}
	for range 3 {
		l := span.Columns(none(), 0, 0, 8)
		if !slices.Equal(l, []int{0}) {
			t.Errorf("R6: one column, behind a spoilt answer: %v", l)
		}
		fill(l, -1)
	}
}

// R8: other texts and ways that were asked for in between change no answer.
func TestAsksStandApart(t *testing.T) {
	for range 3 {
		memoryHolds(t, memoryText())
		columns(t, "WtW", 0, 3, 64, 0, 2, 64, 66)
		wide(t, "t", 0, 1, 1, 1)
		checks(t, api.Config{}, false)
		checks(t, way(), true)
	}
}

// R5: clusters that are an empty list and clusters that are nil mean the same.
func TestEmptyAndNil(t *testing.T) {
	for _, clusters := range [][]api.Cluster{nil, {}, roomy([]api.Cluster{}, cluster('W'))} {
		p := api.Para{Clusters: clusters, Opps: []api.Opp{api.Must}}
		if l := span.Columns(p, 0, 0, 8); !slices.Equal(l, []int{0}) {
			t.Errorf("R5: Columns %v", l)
		}
		if span.Trim(p, 0, 0) != 0 || span.Gaps(p, 0, 0) != 0 || span.Cells(p, 0, 0, api.Must, 8) != 0 {
			t.Errorf("R5: %d, %d, %d", span.Trim(p, 0, 0), span.Gaps(p, 0, 0), span.Cells(p, 0, 0, api.Must, 8))
		}
		ends(t, p, 0, api.Must, true)
		if l := span.Make(p, 0, 0, api.Must, 8); l != (api.Line{End: api.Must}) {
			t.Errorf("R5: Make %v", l)
		}
	}
}

// P1: of tabs below 1, of boundaries that aren't there, and of texts that are wrong, nothing is promised, but every call ends and none panics.
func TestEveryCallEnds(t *testing.T) {
	ints := []int{math.MinInt, math.MinInt + 1, -4096, -1, 0, 1, 2, 3, 4, 5, 4096, 4097, math.MaxInt - 1, math.MaxInt}
	wrong := with(text("abc"), 9, 2)
	wrong.Clusters[1] = api.Cluster{At: -1, Len: -1, Cells: math.MaxInt, Kind: 77}
	wrong.Clusters[2] = api.Cluster{Cells: math.MinInt, Kind: api.Tab}
	for _, p := range []api.Para{{}, {Opps: []api.Opp{2}}, {Clusters: text("t ").Clusters}, text(" t0a"), wrong} {
		for _, from := range ints {
			span.Ends(p, from)
			for _, to := range ints {
				span.Trim(p, from, to)
				span.Gaps(p, from, to)
				for _, tab := range ints {
					span.Next(cluster('t'), from, tab)
					span.Next(cluster('W'), to, tab)
					span.Columns(p, from, to, tab)
					span.Cells(p, from, to, api.Hyphen, tab)
					span.Make(p, from, to, api.Cut, tab)
				}
			}
		}
	}
}
