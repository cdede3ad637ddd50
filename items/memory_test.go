package items_test

import (
	"slices"
	"testing"

	"stanza/api"
	"stanza/items"
)

// roomy gives a list spare room that is filled with a thing.
func roomy[T any](l []T, with T) []T {
	whole := append(slices.Clone(l), with, with, with)
	return whole[:len(l)]
}

// sameRoom holds a list and its spare room against what roomy made.
func sameRoom[T comparable](got, l []T, with T) bool {
	return len(got) == len(l) && slices.Equal(got[:len(l)+3], append(slices.Clone(l), with, with, with))
}

// fill puts a thing at all places of a list, its spare room included.
func fill[T any](l []T, with T) {
	for i := range l[:cap(l)] {
		l[:cap(l)][i] = with
	}
}

const memoryText = "a\u0301 \t一b\xff"

func memoryMarks() []api.Opp  { return []api.Opp{0, 0, 1, 1, 1, 1, 0, 2} }
func memoryBreaks() []api.Opp { return []api.Opp{0, 0, 0, 1, 2, 0, 0, 2} }
func memoryPoints() []bool    { return []bool{false, true, false, false, false, true, false, false} }

func memoryPara() api.Para {
	return api.Para{
		Clusters: []api.Cluster{{Len: 3, Cells: 1}, {At: 3, Len: 1, Cells: 1, Kind: api.Space}, {At: 4, Len: 1, Kind: api.Tab}, {At: 5, Len: 3, Cells: 2}, {At: 8, Len: 2, Cells: 1}},
		Opps:     []api.Opp{api.Keep, api.Keep, api.May, api.Must, api.Hyphen, api.Must},
	}
}

func memoryHolds(t *testing.T, what string, got api.Para) {
	t.Helper()
	if !same(got, memoryPara()) {
		t.Errorf("R6, R8: %s: %v, want %v", what, got, memoryPara())
	}
}

// R6: what is handed to Make isn't changed, spare room included; nor is that room read.
func TestHandedInStays(t *testing.T) {
	x := terminal(t)
	more := api.Scalar{R: '一', At: 1000, Len: 3}
	for n := range 9 {
		l, marks := roomy(signs(memoryText), more), roomy(memoryMarks()[:n], api.Must)
		breaks, points := roomy(memoryBreaks()[:n], api.Must), roomy(memoryPoints()[:n], true)
		got := items.Make(l, marks, breaks, points, x)
		if !sameRoom(l, signs(memoryText), more) || !sameRoom(marks, memoryMarks()[:n], api.Must) {
			t.Errorf("R6: signs became %v, marks %v", l[:cap(l)], marks[:cap(marks)])
		}
		if !sameRoom(breaks, memoryBreaks()[:n], api.Must) || !sameRoom(points, memoryPoints()[:n], true) {
			t.Errorf("R6: breaks became %v, points %v", breaks[:cap(breaks)], points[:cap(points)])
		}
		want := items.Make(signs(memoryText), memoryMarks()[:n:n], memoryBreaks()[:n:n], memoryPoints()[:n:n], x)
		if !same(got, want) {
			t.Errorf("R6: of lists of %d with spare room: %v, want %v", n, got, want)
		}
	}
	if x.Of('a') != 1 || x.Of('一') != 2 || x.Of(0x301) != 0 {
		t.Error("R6: the table was changed")
	}
}

// R6: what is handed to Check, Parts and Bytes isn't changed, spare room included; nor is that room read.
func TestParaStays(t *testing.T) {
	more := api.Cluster{At: 10, Len: 5, Cells: 1}
	p := api.Para{Clusters: roomy(memoryPara().Clusters, more), Opps: roomy(memoryPara().Opps, api.Must)}
	for range 2 {
		if !items.Check(p) || items.Bytes(p) != 10 || !slices.Equal(items.Parts(p), []int{3, 5}) {
			t.Errorf("P11.2: %v: %v, %d, %v", p, items.Check(p), items.Bytes(p), items.Parts(p))
		}
	}
	if !sameRoom(p.Clusters, memoryPara().Clusters, more) || !sameRoom(p.Opps, memoryPara().Opps, api.Must) {
		t.Errorf("R6: the text became %v", p)
	}
	short := api.Para{Clusters: p.Clusters, Opps: p.Opps[:len(p.Opps)-1]}
	checks(t, "an Opp in spare room", short, false)
}

// R6: what is done to lists behind a call changes no answer.
func TestHandedInIsNotKept(t *testing.T) {
	l, marks := roomy(signs(memoryText), api.Scalar{}), roomy(memoryMarks(), 0)
	breaks, points := roomy(memoryBreaks(), 0), roomy(memoryPoints(), false)
	p := items.Make(l, marks, breaks, points, terminal(t))
	fill(l, api.Scalar{R: 9, At: 99, Len: 99})
	fill(marks, api.Cut)
	fill(breaks, api.Cut)
	fill(points, true)
	memoryHolds(t, "behind changes of what was handed in", p)
	ends := items.Parts(p)
	fill(p.Opps, api.Keep)
	if !slices.Equal(ends, []int{3, 5}) {
		t.Errorf("R6: Parts hang on what was handed in: %v", ends)
	}
}

// spoil changes an answer, its spare room included.
func spoil(p api.Para) {
	fill(p.Clusters, api.Cluster{At: -1, Len: -1, Cells: -1, Kind: 9})
	fill(p.Opps, 99)
}

// R6, R8: an answer may be changed, its spare room included, without changing another one, or what is handed in.
func TestAnswersStandApart(t *testing.T) {
	x := terminal(t)
	l, marks, breaks, points := signs(memoryText), memoryMarks(), memoryBreaks(), memoryPoints()
	for range 3 {
		first, second := items.Make(l, marks, breaks, points, x), items.Make(l, marks, breaks, points, x)
		ends, others := items.Parts(second), items.Parts(second)
		spoil(first)
		fill(ends, -1)
		memoryHolds(t, "behind a spoilt answer", second)
		if !slices.Equal(others, []int{3, 5}) {
			t.Errorf("R6: two answers of Parts share memory: %v", others)
		}
		if !slices.Equal(l, signs(memoryText)) || !slices.Equal(marks, memoryMarks()) || !slices.Equal(breaks, memoryBreaks()) || !slices.Equal(points, memoryPoints()) {
			t.Errorf("R6: an answer shares memory with what was handed in: %v, %v, %v, %v", l, marks, breaks, points)
		}
		none := items.Make(nil, nil, nil, nil, x)
		fill(items.Parts(none), -1)
		spoil(none)
		does(t, "nothing, behind a spoilt answer", nil, nil, nil, nil, api.Must)
		memoryHolds(t, "the same again", items.Make(l, marks, breaks, points, x))
	}
}

// R8: other texts that were asked for in between change no answer.
func TestAsksStandApart(t *testing.T) {
	x, other := terminal(t), table(t, api.Range{Lo: 'a', Hi: 'z', To: 2})
	for range 3 {
		memoryHolds(t, "between other asks", items.Make(signs(memoryText), memoryMarks(), memoryBreaks(), memoryPoints(), x))
		got := items.Make(signs("ab"), all(3, api.May), []api.Opp{0, 1, 2}, nil, other)
		if want := (api.Para{Clusters: []api.Cluster{{Len: 1, Cells: 2}, {At: 1, Len: 1, Cells: 2}}, Opps: []api.Opp{0, 1, 2}}); !same(got, want) {
			t.Errorf("R8: by another table: %v, want %v", got, want)
		}
		checks(t, "refused in between", api.Para{}, false)
		checks(t, "right in between", memoryPara(), true)
	}
}

// R5: lists that are empty and lists that are nil mean the same.
func TestEmptyAndNil(t *testing.T) {
	x := terminal(t)
	opps, points := [][]api.Opp{nil, {}}, [][]bool{nil, {}}
	for _, text := range []string{"", "a", "ab"} {
		want := items.Make(signs(text), nil, nil, nil, x)
		for _, marks := range opps {
			for _, breaks := range opps {
				for _, cuts := range points {
					if got := items.Make(signs(text), marks, breaks, cuts, x); !same(got, want) {
						t.Errorf("R5: %q: %v, want %v", text, got, want)
					}
				}
			}
		}
	}
	for _, clusters := range [][]api.Cluster{nil, {}} {
		for _, none := range opps {
			p := api.Para{Clusters: clusters, Opps: none}
			checks(t, "neither clusters nor Opps", p, false)
			if len(items.Parts(p)) != 0 || items.Bytes(p) != 0 {
				t.Errorf("R5: %v, %d", items.Parts(p), items.Bytes(p))
			}
		}
		checks(t, "no clusters", api.Para{Clusters: clusters, Opps: []api.Opp{api.Must}}, true)
	}
}
