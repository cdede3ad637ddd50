package trie_test

import (
	"slices"
	"testing"

	"stanza/api"
	"stanza/trie"
)

// roomy gives a list spare room that is filled with a number.
func roomy[T any](l []T, with T) []T {
	whole := append(slices.Clone(l), with, with, with)
	return whole[:len(l)]
}

// roomyList are patterns whose lists have spare room, all of it filled.
func roomyList() []api.Pattern {
	l := list(pat("hyp", "0010"), pat("p", "20"), pat(".h", "03"), pat("hy", "00005"), pat("", "1"), pat("hyp", "4"))
	for i := range l {
		l[i].Letters = roomy(l[i].Letters, 'y')
		l[i].Values = roomy(l[i].Values, 9)
	}
	return roomy(l, pat("h", "99"))
}

// sameList holds patterns against each other, their spare room included.
func sameList(a, b []api.Pattern) bool {
	whole := func(p api.Pattern) ([]int32, []uint8) {
		return p.Letters[:min(cap(p.Letters), len(p.Letters)+3)], p.Values[:min(cap(p.Values), len(p.Values)+3)]
	}
	return slices.EqualFunc(a[:len(a)+3], b[:len(b)+3], func(x, y api.Pattern) bool {
		xl, xv := whole(x)
		yl, yv := whole(y)
		return len(x.Letters) == len(y.Letters) && len(x.Values) == len(y.Values) && slices.Equal(xl, yl) && slices.Equal(xv, yv)
	})
}

var (
	roomyWord = []int32("hyphy")
	roomyWant = []uint8{4, 1, 2, 1, 5, 1}
)

// roomyHolds asks a trie of roomyList everything that it is asked for in this file.
func roomyHolds(t *testing.T, why string, x *trie.Trie) {
	t.Helper()
	if got := x.Values(roomyWord); !slices.Equal(got, roomyWant) || x.Size() != 7 {
		t.Errorf("%s: %v, size %d", why, got, x.Size())
	}
}

// R6: what is handed in isn't changed, spare room included; nor is that room read.
func TestHandedInStays(t *testing.T) {
	l := roomyList()
	x := trie.Make(l)
	roomyHolds(t, "P8.1", x)
	if !sameList(l, roomyList()) {
		t.Errorf("R6: Make changed its list: %v", l)
	}
	for _, room := range []int32{'p', '.', 'h'} {
		word := roomy(roomyWord, room)
		if got := x.Values(word); !slices.Equal(got, roomyWant) {
			t.Errorf("P8.1: %v", got)
		}
		if !slices.Equal(word[:len(word)+3], append(slices.Clone(roomyWord), room, room, room)) {
			t.Errorf("R6: Values changed its word: %v", word[:len(word)+3])
		}
	}
	if !sameList(l, roomyList()) {
		t.Errorf("R6: Values changed Make's list: %v", l)
	}
}

// R6: what is done to the list behind Make, or to a word behind Values, changes no answer.
func TestHandedInIsNotKept(t *testing.T) {
	l := roomyList()
	x := trie.Make(l)
	for i := range l {
		p := l[i]
		for j := range p.Values[:cap(p.Values)] {
			p.Values[:cap(p.Values)][j] = 77
		}
		for j := range p.Letters[:cap(p.Letters)] {
			p.Letters[:cap(p.Letters)][j] = 'z'
		}
		roomyHolds(t, "R6", x)
	}
	clear(l[:cap(l)])
	roomyHolds(t, "R6", x)

	word := slices.Clone(roomyWord)
	got := x.Values(word)
	clear(word)
	if !slices.Equal(got, roomyWant) {
		t.Errorf("R6: a word was cleared, and its answer is %v", got)
	}
	roomyHolds(t, "R6", x)
}

// R6: an answer may be changed, its spare room included, without changing another one or the trie.
func TestAnswersStandApart(t *testing.T) {
	x := trie.Make(roomyList())
	words := []string{"hyphy", "hyphy", "", "", "h", "p", "hyp", "zzzzzz"}
	var answers, wanted [][]uint8
	for _, w := range words {
		answers = append(answers, x.Values([]int32(w)))
		wanted = append(wanted, slowValues(roomyList(), []int32(w)))
	}
	for i := range answers {
		whole := answers[i][:cap(answers[i])]
		for j := range whole {
			whole[j] = 99
		}
		for j := i + 1; j < len(answers); j++ {
			if !slices.Equal(answers[j], wanted[j]) {
				t.Errorf("R6: of %q: %v, want %v", words[j], answers[j], wanted[j])
			}
		}
		roomyHolds(t, "R6", x)
	}
	var none *trie.Trie
	answer := none.Values([]int32("ab"))
	answer[1] = 5
	if got := none.Values([]int32("ab")); !slices.Equal(got, digits("000")) {
		t.Errorf("R6: of a nil trie: %v", got)
	}
}

// R6, R8: tries stand apart, and asking changes nothing, in whatever order it is done.
func TestTriesStandApart(t *testing.T) {
	x := trie.Make(roomyList())
	y := trie.Make(list(pat("hy", "777"), pat("z", "66")))
	trie.Make(nil)
	for range 3 {
		y.Values([]int32("hyphyz"))
		x.Values([]int32("newletters"))
		roomyHolds(t, "R8", x)
		if got := y.Values([]int32("hyz")); !slices.Equal(got, digits("7776")) || y.Size() != 4 {
			t.Errorf("R8: %v, size %d", got, y.Size())
		}
	}
}
