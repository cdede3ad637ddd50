package cells_test

import (
	"slices"
	"testing"

	"stanza/api"
	"stanza/cells"
)

// roomy gives a list spare room that is filled with a thing.
func roomy[T any](l []T, with T) []T {
	whole := append(slices.Clone(l), with, with, with)
	return whole[:len(l)]
}

// sameRoom holds a list and its spare room against what roomy made.
func sameRoom[T comparable](got, l []T, with T) bool {
	return len(got) == len(l) && slices.Equal(got[:len(l)+3], append(slices.Clone(l), with, with, with))
}

const memoryText = "a\u0301 \t一b\xff"

// memoryMarks cut memoryText into 5 clusters of its 7 signs.
func memoryMarks() []api.Opp { return cutAt(7, 2, 3, 4, 5) }

func memoryClusters() []api.Cluster {
	return []api.Cluster{
		{Len: 3, Cells: 1}, {At: 3, Len: 1, Cells: 1, Kind: api.Space}, {At: 4, Len: 1, Kind: api.Tab}, {At: 5, Len: 3, Cells: 2}, {At: 8, Len: 2, Cells: 1},
	}
}

var memoryPlaces = [6]int{0, 2, 3, 4, 5, 7}

// R6: what is handed in isn't changed, spare room included; nor is that room read.
func TestHandedInStays(t *testing.T) {
	p := terminal(t)
	more := api.Scalar{R: '一', At: 1000, Len: 3}
	for _, n := range []int{0, 1, 2, 5, 7, 8} {
		l, marks := roomy(signs(memoryText), more), roomy(memoryMarks()[:n], api.Must)
		got, _ := cells.Make(l, marks, p)
		if !sameRoom(l, signs(memoryText), more) {
			t.Errorf("R6: the signs became %v", l[:cap(l)])
		}
		if !sameRoom(marks, memoryMarks()[:n], api.Must) {
			t.Errorf("R6: the marks became %v", marks[:cap(marks)])
		}
		want, _ := cells.Make(signs(memoryText), memoryMarks()[:n:n], p)
		if !slices.Equal(got, want) {
			t.Errorf("R6: of %d marks with spare room: %v, want %v", n, got, want)
		}
	}
	// The room behind the marks would cut them, that behind the signs would widen them.
	holds(t, "spare room", roomy(signs("aab"), more), roomy(kept(1), api.Must), p, []api.Cluster{{Len: 3, Cells: 1}}, 0, 3)
	holds(t, "spare room of nothing", roomy(signs(""), more), roomy(kept(0), api.Must), p, nil, 0)
}

// R6: what is done to lists behind a call changes no answer.
func TestHandedInIsNotKept(t *testing.T) {
	p := terminal(t)
	l, marks := roomy(signs(memoryText), api.Scalar{}), roomy(memoryMarks(), 0)
	clusters, places := cells.Make(l, marks, p)
	for i := range l[:cap(l)] {
		l[:cap(l)][i] = api.Scalar{R: 9, At: 99, Len: 99}
	}
	for i := range marks[:cap(marks)] {
		marks[:cap(marks)][i] = api.Cut
	}
	if !slices.Equal(clusters, memoryClusters()) || !slices.Equal(places, memoryPlaces[:]) {
		t.Errorf("R6: an answer hangs on what was handed in: %v, %v", clusters, places)
	}
}

// spoil changes an answer, its spare room included.
func spoil(clusters []api.Cluster, places []int) {
	for i := range clusters[:cap(clusters)] {
		clusters[:cap(clusters)][i] = api.Cluster{At: -1, Len: -1, Cells: -1, Kind: 9}
	}
	for i := range places[:cap(places)] {
		places[:cap(places)][i] = -1
	}
}

// R6, R8: an answer may be changed, its spare room included, without changing another one, or what is handed in.
func TestAnswersStandApart(t *testing.T) {
	p := terminal(t)
	l, marks := signs(memoryText), memoryMarks()
	for range 3 {
		first, at := cells.Make(l, marks, p)
		second, where := cells.Make(l, marks, p)
		spoil(first, at)
		if !slices.Equal(second, memoryClusters()) || !slices.Equal(where, memoryPlaces[:]) {
			t.Errorf("R6: two answers share memory: %v, %v", second, where)
		}
		if !slices.Equal(l, signs(memoryText)) || !slices.Equal(marks, memoryMarks()) {
			t.Errorf("R6: an answer shares memory with what was handed in: %v, %v", l, marks)
		}
		spoil(cells.Make(nil, nil, p))
		holds(t, "nothing, behind a spoilt answer", nil, nil, p, nil, 0)
		holds(t, "the same, behind a spoilt answer", l, marks, p, memoryClusters(), memoryPlaces[:]...)
	}
}

// R8: neither other signs nor another table that were asked for change an answer; nor does asking change the table.
func TestAsksStandApart(t *testing.T) {
	p, other := terminal(t), widths(t)
	blocks := p.Blocks()
	for range 3 {
		holds(t, "by one table", signs(memoryText), memoryMarks(), p, memoryClusters(), memoryPlaces[:]...)
		holds(t, "by another one", signs("gab"), cutAll(3), other, []api.Cluster{{Len: 1, Cells: 2}, {At: 1, Len: 1}, {At: 2, Len: 1, Cells: 1}}, 0, 1, 2, 3)
		holds(t, "by none", signs("gab"), cutAll(3), nil, []api.Cluster{{Len: 1}, {At: 1, Len: 1}, {At: 2, Len: 1}}, 0, 1, 2, 3)
	}
	if p.Of('a') != 1 || p.Of('一') != 2 || p.Of(0x301) != 0 || p.Blocks() != blocks {
		t.Error("R6: the table was changed")
	}
}
