package hyph_test

import (
	"math"
	"slices"
	"strings"
	"testing"

	"stanza/api"
	"stanza/hyph"
	"stanza/scal"
)

// numbered are signs of these numbers, whatever they are.
func numbered(row ...int32) []api.Scalar {
	l := make([]api.Scalar, len(row))
	for i, r := range row {
		l[i] = api.Scalar{R: r, At: i, Len: 1}
	}
	return l
}

// at is a list of points with those at these boundaries of n things.
func at(n int, places ...int) []bool {
	points := make([]bool, n+1)
	for _, i := range places {
		points[i] = true
	}
	return points
}

// P9.2: Points of no sign is one boundary, and no point.
func TestPointsOfNothing(t *testing.T) {
	h := made(t, "1a a-b", small(), 1, 1)
	for _, l := range [][]api.Scalar{nil, {}} {
		if got := h.Points(l); !slices.Equal(got, at(0)) {
			t.Errorf("P9.2: points of nothing: %v", got)
		}
	}
	for _, word := range [][]int32{nil, {}} {
		if got := h.Word(word); !slices.Equal(got, at(0)) {
			t.Errorf("P9.2: word of nothing: %v", got)
		}
	}
}

// P9.2: words at the beginning, in the midst and at the end, as long as letters go on.
func TestPointsOfWords(t *testing.T) {
	h := made(t, "hy1p ta-ble", small(), 2, 2)
	texts(t, h,
		"hy|phen", "hy|phen ", " hy|phen", " hy|phen ", "  hy|phen  ",
		"hy|phen ta|ble", "hy|phen.ta|ble.hy|phen", "hy|phen  ta|ble", "-hy|phen-\n-ta|ble-",
		"tables", "stable", "ta|ble7", // a word is told as a whole alone
		"hy|phyp", "hy phen", "hy-phen", "h yphen", "hyp", "ta ble", "t a b l e",
		"a hy|phen a ta|ble a", "1hy|phen2ta|ble3", "hy|phen7", "7ta|ble7", "éhy|phené",
	)
}

// P9.2: signs that are no letters have no point ahead of them nor behind them.
func TestPointsOfNoLetters(t *testing.T) {
	h := made(t, "1a1", small(), 1, 1)
	texts(t, h, "", " ", "   ", "1", "123", "-", ".", "A", "ABC", "é", "\n\n", "€€€")
	texts(t, h, " a ", "a", "a a", "a.a", "A a A", "a1a", "a|a a|b b", "b b", "b|a", "bb", "b|aAa|b")
}

// P9.2: ahead of the first and behind the last letter there is none, whatever the patterns say there.
func TestNoPointAtEnds(t *testing.T) {
	h := made(t, "1a1 1b1 .1a .1b a1. b1. 9c9", small(), 1, 1)
	words(t, h, "", "a", "b", "c", "a|b", "b|a", "c|c", "a|b|c")
	texts(t, h, "", "a", "b", "c", " a", "a ", " a ", "a b", "a-b", "a|b a|b", " c|c ", "c c")
}

// P9.2: a word's own ends, not the text's, are what a pattern's points stand for.
func TestPatternsAtWordsEnds(t *testing.T) {
	h := made(t, ".a1b c1d. .e1f.", small(), 1, 1)
	texts(t, h, "a|b", "xab", "x a|b x", "a|bab", "c|d", "cdx", "x c|d x", "cdc|d", "e|f", "efe", "fef", "x e|f x", "e|f e|f")
}

// P9.2: great and small letters that lead to the same ones are cut alike; letters that no pattern names end no word.
func TestPointsFolded(t *testing.T) {
	h := made(t, "hy1p ta-ble 1q", folded(), 2, 2)
	texts(t, h, "hy|phen", "HY|PHEN", "Hy|Phen", "hY|pHEN", "TA|BLE", "Ta|ble", "tA|bLe", "TABLEs", "XX|QX", "xx|QX", "Hy|phen Ta|BLE")
	texts(t, made(t, "hy1p", small(), 2, 2), "Hyphen", "HYPHEN", "xHYphen", "Xhy|phen")
	// Signs of many bytes, as they are read.
	greek := made(t, "α1β γ-δ", []api.Range{{Lo: 0x391, Hi: 0x3a9, To: 0x3b1}, {Lo: 0x3b1, Hi: 0x3c9, To: 0x3b1}}, 1, 1)
	texts(t, greek, "α|β", "Α|Β", "Γ|δ", "α|βγ", "aα|βa", "γδε", "Γ|Δ α|Β")
}

// P9.2: Bad is a sign like others: a letter, if it stands in a range, else none.
func TestPointsOfBad(t *testing.T) {
	text := []byte("hy\xffphyp\xff\xffhyp\xf0\x9f\x98hyp")
	l := scal.All(text)
	if got := made(t, "hy1p", small(), 1, 1).Points(l); !slices.Equal(got, at(len(l), 6, 11, 15)) {
		t.Errorf("P9.2: Bad is no letter: %v", got)
	}
	wide := []api.Range{{Lo: 'a', Hi: 'z', To: 'a'}, {Lo: api.Bad, Hi: api.Bad, To: 'y'}}
	bad := scal.All([]byte("h\xffp \xf0\x9f\x98hyp\xff"))
	if got := made(t, "hy1p 1yh", wide, 1, 1).Points(bad); !slices.Equal(got, at(len(bad), 2, 7)) {
		t.Errorf("P9.2: Bad as the letter y: %v", got)
	}
	if got := made(t, ".yh1y", wide, 1, 1).Points(bad); !slices.Equal(got, at(len(bad), 6)) {
		t.Errorf("P9.2: Bad as a word's first letter: %v", got)
	}
}

// P9.2: only a sign's number says whether it is a letter; numbers that no sign has are none, and panic nowhere (P1).
func TestPointsOfAnyNumbers(t *testing.T) {
	h := made(t, "1a", []api.Range{{Lo: 0, Hi: 0x10ffff, To: 0}}, 1, 1)
	l := numbered('a', 'a', -1, 'a', 'a', 0x110000, 'a', math.MaxInt32, 'a', 'a', math.MinInt32, 0x10ffff, 'a', 0, 'a')
	want := at(len(l), 1, 4, 9, 12, 14)
	if got := h.Points(l); !slices.Equal(got, want) {
		t.Errorf("P9.2: %v, want %v", got, want)
	}
	for i := range l {
		l[i].At, l[i].Len = math.MinInt+i, -i
	}
	if got := h.Points(l); !slices.Equal(got, want) {
		t.Errorf("P9.2: of other places: %v, want %v", got, want)
	}
}

// P9.2: Word takes any numbers as they come, a point among them.
func TestWordOfAnyNumbers(t *testing.T) {
	h := made(t, "1a b-c a1.", small(), 1, 1)
	for _, x := range []struct {
		word []int32
		want []bool
	}{
		{[]int32{-1, 'a', 0x110000, 'a'}, at(4, 1, 3)},
		{[]int32{math.MinInt32, math.MaxInt32, 0, -'a'}, at(4)},
		{[]int32{'b', 'c'}, at(2, 1)},
		{[]int32{'B', 'C'}, at(2)},
		{[]int32{' ', 'a', ' '}, at(3, 1)},
		{[]int32{'b', 'a', '.', 'b'}, at(4, 1, 2)},
		{[]int32{'b', 'a', ',', 'b'}, at(4, 1)},
		{[]int32{'-', '1', 'a'}, at(3, 2)},
		{[]int32{api.Bad, 'a'}, at(2, 1)},
	} {
		if got := h.Word(x.word); !slices.Equal(got, x.want) {
			t.Errorf("P9.2: word %v: %v, want %v", x.word, got, x.want)
		}
	}
}

// P1: very long words and texts are gone through to their end.
func TestLong(t *testing.T) {
	h := made(t, "a1b ab2a x-y", small(), 3, 2)
	word := slices.Repeat([]int32("ab"), 100000)
	got := h.Word(word)
	for i, point := range got {
		if point != (i%2 == 1 && i >= 3 && i <= len(word)-2) {
			t.Fatalf("P9.2: a long word: %v at %d of %d", point, i, len(word))
		}
	}
	short := slices.Repeat(numbered('a', 'b', 'a', 'b', 'a', 'b', ' '), 30000)
	for i, point := range h.Points(short) {
		if point != (i%7 == 3) {
			t.Fatalf("P9.2: many words: %v at %d", point, i)
		}
	}
	if got := h.Points(numbered(word...)); !slices.Equal(got, h.Word(word)) {
		t.Error("P9.2: a long word as signs")
	}
	texts(t, h, strings.Repeat(" ", 100000))
}

// R7: a nil Hyphens holds nothing.
func TestNil(t *testing.T) {
	var h *hyph.Hyphens
	noLetter(t, h, 0, 'a', -1, 0x10ffff, 0x110000)
	words(t, h, "", "a", "ab", "hyphen")
	texts(t, h, "", "a", "ab", "hyphen table", " - ")
	for n := range 60 {
		if got := h.Word(make([]int32, n)); !slices.Equal(got, at(n)) {
			t.Errorf("R7: word of %d letters: %v", n, got)
		}
		if got := h.Points(make([]api.Scalar, n)); !slices.Equal(got, at(n)) {
			t.Errorf("R7: points of %d signs: %v", n, got)
		}
	}
}

// P1: a Hyphens that wasn't made doesn't panic.
func TestNotMade(t *testing.T) {
	h := &hyph.Hyphens{}
	noLetter(t, h, 0, 'a')
	words(t, h, "", "a", "hyphen")
	texts(t, h, "", "a", "hyphen table")
}
