package trie_test

import (
	"math"
	"slices"
	"testing"

	"stanza/api"
	"stanza/trie"
)

// P8.1: a pattern without letters is laid wherever nothing stands: at each boundary, those outside the two ends too.
func TestNoLetters(t *testing.T) {
	values(t, list(pat("", "1")), "", "1", "a", "11", "abc", "1111")
	values(t, list(pat("", "0"), pat("", "2"), pat("", "1")), "", "2", "abc", "2222")
	values(t, list(pat("", "1"), pat("a", "02")), "a", "12", "bab", "1121")
	values(t, list(pat("", "12")), "", "2", "ab", "222")
	values(t, list(pat("", "021")), "", "2", "ab", "222")
	values(t, list(pat("", "001")), "", "0", "a", "01", "abc", "0111")
	values(t, list(pat("", "0012")), "", "0", "a", "01", "ab", "012", "abcd", "01222")
}

// P8.1: values beyond a pattern's letters are laid as well; those beyond the word's places say nothing.
func TestTooManyValues(t *testing.T) {
	values(t, list(pat("a", "12345")), "a", "12", "ab", "123", "abc", "1234", "abcde", "123450", "abcdea", "1234512", "cba", "0012", "", "0")
	values(t, list(pat("a", "54321")), "aaa", "5554", "baa", "0554")
	values(t, list(pat(".", "12345")), "", "2", "a", "23", "abcd", "23451", "abc", "2345", "abcdef", "2345001")
	values(t, list(pat("a.", "1234")), "a", "12", "ba", "012")
	values(t, list(pat(".a.", "123456789")), "a", "23", "ab", "000")
	values(t, list(pat("ab", "000000007")), "abcdefghij", "00000000700", "abcdefg", "00000000", "abcdefgh", "000000007")
	values(t, list(pat("x", "123456789")), "a", "00")
}

// P8.1: values that lack are 0.
func TestTooFewValues(t *testing.T) {
	values(t, list(pat("abc", "123")), "abc", "1230", "abcabc", "1231230")
	values(t, list(pat("abc", "1")), "abc", "1000", "xabc", "01000")
	values(t, list(pat("abc", "")), "abc", "0000", "xabc", "00000")
	values(t, list(pat(".a", "1")), "a", "00")
	values(t, list(pat(".a", "12")), "a", "20")
	values(t, list(pat("", "")), "", "0", "ab", "000")
	size(t, 4, list(api.Pattern{Letters: []int32("abc")}))
	values(t, list(api.Pattern{Letters: []int32("abc")}, api.Pattern{}), "abc", "0000")
}

// P8.1: a point is a letter like others wherever it stands, in a pattern and in a word.
func TestPointsWithin(t *testing.T) {
	values(t, list(pat("a.b", "1234")), "a.b", "1234", "ab", "000", "a.ba.b", "1234234")
	values(t, list(pat(".a", "312")), ".a", "312", "b.a", "0312", ".", "00", "a.", "120")
	values(t, list(pat("a.", "123")), "a.", "123", "a.b", "1230", "a", "12", ".", "00")
	values(t, list(pat(".", "12")), ".", "22", "..", "222", "a.a", "2121", "", "2")
	values(t, list(pat("..", "123")), ".", "23", "..", "233", ".a", "230", "a.", "012", "a..a", "01230")
	size(t, 4, list(pat("a.b", "")))
}

// P8.1: letters may be any numbers, values too.
func TestAnyLetters(t *testing.T) {
	odd := []int32{math.MinInt32, -47, -46, -2, -1, 0, 1, 45, 47, 0xd800, 0x10ffff, 0x110000, math.MaxInt32 - 1, math.MaxInt32}
	all := []api.Pattern{}
	for i, letter := range odd {
		all = append(all, api.Pattern{Letters: []int32{letter}, Values: []uint8{uint8(255 - i)}})
	}
	x := trie.Make(all)
	if got := x.Size(); got != len(odd)+1 {
		t.Errorf("P8.1: size %d, want %d", got, len(odd)+1)
	}
	want := []uint8{255, 254, 253, 252, 251, 250, 249, 248, 247, 246, 245, 244, 243, 242, 0}
	if got := x.Values(odd); !slices.Equal(got, want) {
		t.Errorf("P8.1: %v, want %v", got, want)
	}
	whole := trie.Make([]api.Pattern{{Letters: odd, Values: want}})
	if got := whole.Values(odd); !slices.Equal(got, want) || whole.Size() != len(odd)+1 {
		t.Errorf("P8.1: %v, want %v, size %d", got, want, whole.Size())
	}
	for i := range odd {
		word := slices.Clone(odd)
		word[i] ^= 2
		if got := whole.Values(word); !slices.Equal(got, make([]uint8, len(odd)+1)) {
			t.Errorf("P8.1: another letter %d: %v", i, got)
		}
	}
}

// P8.1: values are held against each other as numbers from 0 to 255.
func TestAnyValues(t *testing.T) {
	for a := range 256 {
		for _, b := range []int{0, 1, 9, 127, 128, 254, 255} {
			l := []api.Pattern{{Letters: []int32("a"), Values: []uint8{uint8(a), uint8(b)}}, {Letters: []int32("ab"), Values: []uint8{uint8(b), uint8(a), uint8(a)}}}
			most := uint8(max(a, b))
			if got := trie.Make(l).Values([]int32("ab")); !slices.Equal(got, []uint8{most, most, uint8(a)}) {
				t.Errorf("P8.1: %d, %d: %v", a, b, got)
			}
		}
	}
}

// P8.1: words far longer than all patterns, and patterns far longer than words.
func TestLong(t *testing.T) {
	long := slices.Repeat([]int32("ab"), 50000)
	got := trie.Make(list(pat("ba", "012"), pat(".a", "030"), pat("b.", "040"))).Values(long)
	if !slices.Equal(got, wantLong(len(long))) {
		t.Errorf("P8.1: a long word: %v ..", got[:10])
	}
	x := trie.Make([]api.Pattern{{Letters: long, Values: slices.Repeat([]uint8{1}, len(long)+1)}, pat("ab", "020")})
	if x.Size() != len(long)+1 {
		t.Errorf("P8.1: a long pattern: size %d", x.Size())
	}
	if got := x.Values([]int32("abab")); !slices.Equal(got, digits("02020")) {
		t.Errorf("P8.1: a long pattern: %v", got)
	}
	if got := trie.Make([]api.Pattern{{Letters: []int32("a"), Values: slices.Repeat([]uint8{1}, 1000000)}}).Values([]int32("bab")); !slices.Equal(got, digits("0111")) {
		t.Errorf("P8.1: many values: %v", got)
	}
}

// wantLong is what .3a, b1a2 and b4. say of abab..ab with so many letters.
func wantLong(n int) []uint8 {
	out := make([]uint8, n+1)
	out[0], out[n] = 3, 4
	for i := 2; i < n; i += 2 {
		out[i] = 1
		out[i+1] = 2
	}
	return out
}

// R7: a nil trie holds nothing: no beginning, and zeros at each place.
func TestNil(t *testing.T) {
	var x *trie.Trie
	if got := x.Size(); got != 0 {
		t.Errorf("R7: size %d", got)
	}
	for n := range 30 {
		if got := x.Values(make([]int32, n)); !slices.Equal(got, make([]uint8, n+1)) {
			t.Errorf("R7: of %d letters: %v", n, got)
		}
	}
	if got := x.Values(nil); !slices.Equal(got, []uint8{0}) {
		t.Errorf("R7: of no word: %v", got)
	}
}

// P1: a trie that wasn't made doesn't panic.
func TestNotMade(t *testing.T) {
	var x trie.Trie
	if got := x.Values([]int32("a.b")); !slices.Equal(got, digits("0000")) || x.Size() != 0 {
		t.Errorf("P1: %v, size %d", got, x.Size())
	}
}
