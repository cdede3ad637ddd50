package trie_test

import (
	"slices"
	"testing"

	"stanza/api"
	"stanza/trie"
)

// The tests of this file hold a trie against slow answers of another make: each pattern is held against each place by itself.

// slowSize gathers all beginnings as texts of numbers.
func slowSize(l []api.Pattern) int {
	seen := map[string]bool{"": true}
	for _, p := range l {
		text := ""
		for _, letter := range p.Letters {
			text += string([]byte{byte(letter >> 24), byte(letter >> 16), byte(letter >> 8), byte(letter)})
			seen[text] = true
		}
	}
	return len(seen)
}

// slowValue is the greatest value that a pattern has ahead of that place of a word.
func slowValue(l []api.Pattern, row []int32, place int) uint8 {
	most := uint8(0)
	for _, p := range l {
		for i, v := range p.Values {
			from := place - i
			if from < 0 || from+len(p.Letters) > len(row) {
				continue
			}
			if slices.Equal(row[from:from+len(p.Letters)], p.Letters) {
				most = max(most, v)
			}
		}
	}
	return most
}

func slowValues(l []api.Pattern, word []int32) []uint8 {
	row := slices.Concat([]int32{46}, word, []int32{46})
	out := []uint8{}
	for place := 1; place <= len(word)+1; place++ {
		out = append(out, slowValue(l, row, place))
	}
	return out
}

func holdAgainst(t *testing.T, l []api.Pattern, words ...[]int32) (said int) {
	t.Helper()
	x := trie.Make(l)
	if got, want := x.Size(), slowSize(l); got != want {
		t.Fatalf("P8.1: %v: size %d, want %d", l, got, want)
	}
	for _, word := range words {
		got, want := x.Values(word), slowValues(l, word)
		if !slices.Equal(got, want) {
			t.Fatalf("P8.1: %v: of %v: %v, want %v", l, word, got, want)
		}
		if slices.Max(want) > 0 {
			said++
		}
	}
	return said
}

// allRows are all rows of up to so many of these letters.
func allRows(letters string, most int) [][]int32 {
	rows := [][]int32{nil}
	for from := 0; most > 0; most-- {
		to := len(rows)
		for _, row := range rows[from:to] {
			for _, r := range letters {
				rows = append(rows, append(slices.Clone(row), r))
			}
		}
		from = to
	}
	return rows
}

// TestAllShort: all pairs of short patterns, with few values of one and many of the other, of all short words.
func TestAllShort(t *testing.T) {
	rows := allRows("a.", 3)
	words := allRows("ab.", 3)
	for _, a := range rows {
		for _, b := range rows {
			for n := range 6 {
				holdAgainst(t, list(api.Pattern{Letters: a, Values: digits("13579")[:n]}, api.Pattern{Letters: b, Values: digits("86420")[:5-n]}), words...)
			}
		}
	}
}

// TestOneValue: each single value of each short pattern, of all words that are somewhat longer.
func TestOneValue(t *testing.T) {
	words := allRows("ab", 6)
	for _, row := range allRows("ab.", 3) {
		for n := range 7 {
			v := make([]uint8, n+1)
			v[n] = 1
			holdAgainst(t, list(api.Pattern{Letters: row, Values: v}), words...)
		}
	}
}

type dice uint64

func (d *dice) roll(n int) int {
	*d = *d*6364136223846793005 + 1442695040888963407
	return int(uint64(*d)>>33) % n
}

func (d *dice) row(letters []int32, n int) []int32 {
	row := make([]int32, n)
	for i := range row {
		row[i] = letters[d.roll(len(letters))]
	}
	return row
}

// pattern has mostly one value more than letters, and mostly zeros.
func (d *dice) pattern(letters []int32, most int) api.Pattern {
	p := api.Pattern{Letters: d.row(letters, d.roll(most+1))}
	n := len(p.Letters) + 1
	if d.roll(4) == 0 {
		n = max(0, n+d.roll(7)-3)
	}
	p.Values = make([]uint8, n)
	for i := range p.Values {
		p.Values[i] = uint8(d.roll(256) * (d.roll(3) / 2))
	}
	return p
}

// TestAgainstSlow: many patterns at once, of few letters and of many.
func TestAgainstSlow(t *testing.T) {
	d := dice(3)
	said, asked := 0, 0
	for n := range 4000 {
		letters := [][]int32{[]int32("ab"), []int32("a.b"), []int32("abcdef."), {-1, 0, 46, -46, 0x110000, -0x80000000, 0x7fffffff}}[n%4]
		var l []api.Pattern
		for range d.roll(12) {
			l = append(l, d.pattern(letters, 1+d.roll(6)))
		}
		words := [][]int32{d.row(letters, d.roll(4)), d.row(letters, d.roll(12)), d.row(letters, d.roll(40))}
		said += holdAgainst(t, l, words...)
		asked += len(words)
	}
	if said < asked/4 || said > asked*19/20 {
		t.Errorf("of %d words something is said of %d", asked, said)
	}
}

// TestManyAgainstSlow: as many patterns as a text may have, and more, up to as long as they may be.
func TestManyAgainstSlow(t *testing.T) {
	d := dice(5)
	for n := range 40 {
		letters := [][]int32{[]int32("a"), []int32("ab."), []int32("abcdefghijklmnopqrstuvwxyz.")}[n%3]
		var l []api.Pattern
		for range 256 + n {
			l = append(l, d.pattern(letters, 24))
		}
		holdAgainst(t, l, d.row(letters, 100), l[n].Letters, d.row(letters, 24))
	}
}

// signed reads bytes as small letters, points and what is no sign.
func signed(b []byte) []int32 {
	row := make([]int32, len(b))
	for i, c := range b {
		row[i] = int32(int8(c))
	}
	return row
}

func FuzzValues(f *testing.F) {
	f.Add([]byte("hyp"), []byte{0, 0, 1, 0}, []byte("p"), []byte{2, 0}, []byte("hyphyp"))
	f.Add([]byte(".a"), []byte{0, 1, 2, 3}, []byte("a."), []byte{2}, []byte("a.a"))
	f.Add([]byte(""), []byte{1, 2}, []byte("."), []byte{}, []byte(""))
	f.Fuzz(func(t *testing.T, a, av, b, bv, word []byte) {
		holdAgainst(t, list(api.Pattern{Letters: signed(a), Values: av}, api.Pattern{Letters: signed(b), Values: bv}), signed(word))
	})
}
