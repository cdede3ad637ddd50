package least_test

import (
	"slices"
	"testing"

	"stanza/api"
	"stanza/least"
)

// roomy tells an automaton whose lists have spare room, with something in it.
func roomy() api.Auto {
	a := api.Auto{
		Next: [][]int{{1, 2, 77, 78}, {2, 0, 77, 78}, {1, 0, 77, 78}, {3, 0, 77, 78}, {55}, {56}},
		Out:  []uint32{0, 1, 1, 4, 77, 78},
	}
	for s := range a.Next[:4] {
		a.Next[s] = a.Next[s][:2]
	}
	a.Next, a.Out = a.Next[:4], a.Out[:4]
	return a
}

// whole tells all that stands in an automaton's lists, spare room included.
func whole(a api.Auto) string {
	next := slices.Clone(a.Next[:cap(a.Next)])
	for s := range next {
		next[s] = next[s][:cap(next[s])]
	}
	return show(api.Auto{Next: next, Out: a.Out[:cap(a.Out)]})
}

// spoil writes into all lists of an automaton, spare room included.
func spoil(a api.Auto) {
	for _, ways := range a.Next[:cap(a.Next)] {
		ways = ways[:cap(ways)]
		for c := range ways {
			ways[c] = 99
		}
	}
	clear(a.Next[:cap(a.Next)])
	clear(a.Out[:cap(a.Out)])
}

// R6: what is handed in isn't changed, spare room included.
func TestNothingIsChanged(t *testing.T) {
	a := roomy()
	least.Check(a)
	made(t, a)
	if whole(a) != whole(roomy()) {
		t.Errorf("R6: %s was changed, it was %s", whole(a), whole(roomy()))
	}
	a.Next[3][0] = 9
	least.Make(a)
	a.Next[3][0] = 3
	if whole(a) != whole(roomy()) {
		t.Errorf("R4: beside an error %s was changed, it was %s", whole(a), whole(roomy()))
	}
}

// R6, R8: an answer is new memory, though there is nothing to be left out.
func TestAnswersStandApart(t *testing.T) {
	for _, a := range []api.Auto{roomy(), read("1,2>0 0,2>1 1,0>2"), read("0>0")} {
		want := show(made(t, a))
		first, second := made(t, a), made(t, a)
		spoil(first)
		if show(second) != want || show(made(t, a)) != want {
			t.Errorf("R6, R8: two answers share memory: %s, want %s", show(second), want)
		}
		spoil(a)
		if show(second) != want {
			t.Errorf("R6: what is handed in is kept: %s, want %s", show(second), want)
		}
	}
}

// R6: no two lists of an answer share memory, though those that were handed in do.
func TestListsStandApart(t *testing.T) {
	ways := []int{1, 2}
	a := api.Auto{Next: [][]int{ways, ways, ways}, Out: []uint32{0, 1, 2}}
	b := made(t, a)
	for s := range b.Next {
		_ = append(b.Next[s], 99, 98, 97)
		b.Next[s][0] += 10 * (s + 1)
	}
	if show(b) != "11,2>0 21,2>1 31,2>2" || show(a) != "1,2>0 1,2>1 1,2>2" {
		t.Errorf("R6: lists of one answer share memory: %s, and %s was handed in", show(b), show(a))
	}
}
