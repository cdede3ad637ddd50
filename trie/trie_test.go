package trie_test

import (
	"slices"
	"testing"

	"stanza/api"
	"stanza/trie"
)

// digits are values, one a digit.
func digits(text string) []uint8 {
	values := []uint8{}
	for _, c := range []byte(text) {
		values = append(values, c-'0')
	}
	return values
}

// pat is a pattern: its letters as a text, its values as digits.
func pat(letters, values string) api.Pattern {
	return api.Pattern{Letters: []int32(letters), Values: digits(values)}
}

func list(l ...api.Pattern) []api.Pattern { return l }

// size makes a trie, and holds its size against what is wanted.
func size(t *testing.T, want int, l []api.Pattern) {
	t.Helper()
	if got := trie.Make(l).Size(); got != want {
		t.Errorf("P8.1: %v: size %d, want %d", l, got, want)
	}
}

// values holds what these patterns say of words (each with the digits that are wanted behind it) against what is wanted.
func values(t *testing.T, l []api.Pattern, words ...string) {
	t.Helper()
	x := trie.Make(l)
	for i := 0; i < len(words); i += 2 {
		if got := x.Values([]int32(words[i])); !slices.Equal(got, digits(words[i+1])) {
			t.Errorf("P8.1: %v: %q: %v, want %s", l, words[i], got, words[i+1])
		}
	}
}

func TestExamples(t *testing.T) {
	l := list(pat("hyp", "0010"), pat("p", "20"))
	values(t, l, "hyp", "0020")
	size(t, 5, l)
}

// P8.1: unlike beginnings, the empty one too, each counted once.
func TestSize(t *testing.T) {
	size(t, 1, nil)
	size(t, 1, list())
	size(t, 1, list(pat("", "")))
	size(t, 1, list(pat("", "1"), pat("", "2"), pat("", "123")))
	size(t, 2, list(pat("a", "00")))
	size(t, 2, list(pat("", "0"), pat("a", "00"), pat("a", "11"), pat("a", "")))
	size(t, 4, list(pat("abc", "0000")))
	size(t, 4, list(pat("abc", ""), pat("ab", ""), pat("a", ""), pat("", "")))
	size(t, 4, list(pat("a", ""), pat("ab", ""), pat("abc", "")))
	size(t, 7, list(pat("abc", ""), pat("bc", ""), pat("c", "")))
	size(t, 6, list(pat("abc", ""), pat("abd", ""), pat("ac", "")))
	size(t, 4, list(pat("aaa", "")))
	size(t, 4, list(pat(".", ""), pat(".a", ""), pat("a", "")))
	size(t, 5, list(pat(".a.", ""), pat("a", "")))
	size(t, 3, list(pat("a", ""), pat("A", "")))
	size(t, 1, list(pat("", "0000000000")))
	size(t, 2, list(pat("a", "0000000000")))
}

// P8.1: a place ahead of each letter, and one behind the last one, even if no pattern says anything.
func TestPlaces(t *testing.T) {
	for _, l := range [][]api.Pattern{nil, list(pat("xyz", "1234")), list(pat("ab", "")), list(pat("", ""))} {
		values(t, l, "", "0", "a", "00", "ab", "000", "abcdefghij", "00000000000")
	}
}

// P8.1: a pattern is laid wherever its letters stand, also over itself.
func TestLaidWherever(t *testing.T) {
	values(t, list(pat("a", "10")), "a", "10", "b", "00", "aa", "110", "abab", "10100", "ba", "010", "", "0")
	values(t, list(pat("a", "01")), "a", "01", "aa", "011", "abab", "01010", "", "0")
	values(t, list(pat("ab", "123")), "ab", "123", "abab", "12323", "aab", "0123", "abb", "1230", "ba", "000", "a", "00", "xabx", "01230")
	values(t, list(pat("aa", "123")), "aa", "123", "aaa", "1233", "aaaaa", "123333", "a", "00", "aabaa", "123123")
	values(t, list(pat("aa", "321")), "aa", "321", "aaa", "3321", "aaaaa", "333321")
	values(t, list(pat("aa", "030")), "aaaa", "03330")
	values(t, list(pat("aba", "1040")), "ababa", "104040", "abaaba", "1041040")
	values(t, list(pat("aba", "1402")), "ababa", "141402")
	values(t, list(pat("abab", "12345")), "ababab", "1234545")
	values(t, list(pat("abcd", "12345")), "abc", "0000", "bcd", "0000", "abcabcd", "00012345", "ababcdcd", "001234500")
}

// P8.1: of several patterns, at each place the greatest value, in whatever order they come.
func TestGreatest(t *testing.T) {
	for _, l := range [][]api.Pattern{
		list(pat("a", "19"), pat("b", "37"), pat("ab", "258")),
		list(pat("ab", "258"), pat("b", "37"), pat("a", "19")),
		list(pat("b", "37"), pat("ab", "258"), pat("a", "19"), pat("ab", "000")),
	} {
		values(t, l, "ab", "298", "a", "19", "b", "37", "ba", "379", "abab", "29898")
	}
	// One that is another's beginning says what it says whether or not that goes on.
	values(t, list(pat("a", "01"), pat("abc", "0002")), "abc", "0102", "abd", "0100", "a", "01", "ab", "010")
	values(t, list(pat("abc", "0002"), pat("a", "01")), "abc", "0102", "abd", "0100", "a", "01", "ab", "010")
	values(t, list(pat("abcd", "40000"), pat("abce", "30000"), pat("ab", "200")), "abcd", "40000", "abce", "30000", "abc", "2000", "abcabe", "2002000")
	// What ends within another one.
	values(t, list(pat("abcd", "10001"), pat("bc", "020"), pat("c", "30")), "abcd", "10301", "abce", "00300", "bc", "030")
	// The same letters twice, with other values, also other many.
	values(t, list(pat("ab", "104"), pat("ab", "231")), "ab", "234")
	values(t, list(pat("ab", "2"), pat("ab", "131")), "ab", "231")
	values(t, list(pat("ab", "131"), pat("ab", "2")), "ab", "231")
	values(t, list(pat("ab", "1"), pat("ab", ""), pat("ab", "01"), pat("ab", "001")), "ab", "111")
	// 0 says no less than nothing.
	values(t, list(pat("a", "11"), pat("a", "00"), pat("ab", "000")), "ab", "110")
}

// P8.1: a point at either end is the word's beginning, or its end.
func TestEnds(t *testing.T) {
	values(t, list(pat(".a", "012")), "a", "12", "aa", "120", "ba", "000", "ab", "120", "", "0")
	values(t, list(pat("a.", "120")), "a", "12", "aa", "012", "ba", "012", "ab", "000", "", "0")
	values(t, list(pat(".a.", "0120")), "a", "12", "aa", "000", "ba", "000", "", "0")
	values(t, list(pat(".ab", "0123"), pat("ab.", "2310")), "ab", "233", "abab", "12331", "abba", "12300", "aba", "1230", "bab", "0231")
	// What they say outside the word isn't asked for.
	values(t, list(pat(".a", "910")), "a", "10")
	values(t, list(pat("a.", "019")), "a", "01")
	values(t, list(pat(".a.", "9119")), "a", "11")
	// A point alone is both ends.
	values(t, list(pat(".", "12")), "a", "21", "abc", "2001", "", "2")
	values(t, list(pat(".", "21")), "a", "12", "abc", "1002", "", "2")
	values(t, list(pat("..", "123")), "", "2", "a", "00", "ab", "000")
	values(t, list(pat("...", "1234")), "", "0", ".", "23", "..", "234")
}
