package hyph_test

import (
	"strings"
	"testing"

	"stanza/api"
	"stanza/hyph"
	"stanza/scal"
)

// small are the letters a to z as they are.
func small() []api.Range { return []api.Range{{Lo: 'a', Hi: 'z', To: 'a'}} }

// folded are the letters a to z, and A to Z as the same ones.
func folded() []api.Range {
	return []api.Range{{Lo: 'A', Hi: 'Z', To: 'a'}, {Lo: 'a', Hi: 'z', To: 'a'}}
}

// made is New of what is right.
func made(t *testing.T, text string, letters []api.Range, left, right int) *hyph.Hyphens {
	t.Helper()
	h, f := hyph.New(text, letters, left, right)
	if f != (api.Fault{}) || h == nil {
		t.Fatalf("P9.1: %q, %v, %d, %d: fault %v", text, letters, left, right, f)
	}
	return h
}

// cut puts a | at each point of a row of signs. It tells if there is not one point more than signs.
func cut(row []int32, points []bool) string {
	if len(points) != len(row)+1 {
		return "of another length"
	}
	var b strings.Builder
	for i, point := range points {
		if point {
			b.WriteByte('|')
		}
		if i < len(row) {
			b.WriteRune(row[i])
		}
	}
	return b.String()
}

// words holds Word against words that are cut by a | at each point that is wanted.
func words(t *testing.T, h *hyph.Hyphens, wanted ...string) {
	t.Helper()
	for _, want := range wanted {
		row := []int32(strings.ReplaceAll(want, "|", ""))
		if got := cut(row, h.Word(row)); got != want {
			t.Errorf("P9.2: word %s, want %s", got, want)
		}
	}
}

// texts holds Points against texts that are cut by a | at each point that is wanted.
func texts(t *testing.T, h *hyph.Hyphens, wanted ...string) {
	t.Helper()
	for _, want := range wanted {
		text := strings.ReplaceAll(want, "|", "")
		if got := cut([]int32(text), h.Points(scal.All([]byte(text)))); got != want {
			t.Errorf("P9.2: text %s, want %s", got, want)
		}
	}
}

func TestExamples(t *testing.T) {
	words(t, made(t, "hy1p ta-ble", small(), 2, 2), "hy|phen", "ta|ble")
	words(t, made(t, "hy1p ta-ble", small(), 2, 4), "hy|phen", "table")
	texts(t, made(t, "hy1p ta-ble", small(), 2, 2), "hy|phen", "ta|ble", "hy|phen-ta|ble")
	texts(t, made(t, "hy1p ta-ble", small(), 2, 4), "hy|phen", "table", "hy|phen-table")
}

// letter holds Letter of a number that is one.
func letter(t *testing.T, h *hyph.Hyphens, r, want int32) {
	t.Helper()
	if got, ok := h.Letter(r); got != want || !ok {
		t.Errorf("P9.2: letter %x: %x, %v, want %x", r, got, ok, want)
	}
}

// noLetter holds Letter of numbers that are none.
func noLetter(t *testing.T, h *hyph.Hyphens, l ...int32) {
	t.Helper()
	for _, r := range l {
		if got, ok := h.Letter(r); got != 0 || ok {
			t.Errorf("P9.2: %x is a letter: %x, %v", r, got, ok)
		}
	}
}

// P9.2: Letter at both ends of each range, within it and beside it.
func TestLetter(t *testing.T) {
	h := made(t, "", []api.Range{
		{Lo: 0, Hi: 0, To: 0x10ffff},
		{Lo: 2, Hi: 4, To: 0},
		{Lo: 'A', Hi: 'Z', To: 'a'},
		{Lo: 'a', Hi: 'z', To: 'a'},
		{Lo: 'z' + 1, Hi: 'z' + 1, To: 7}, // next to the one ahead
		{Lo: 0xd800, Hi: 0xd801, To: 0xdfff},
		{Lo: 0x10fff0, Hi: 0x10ffff, To: 0x10fff0},
	}, 1, 1)
	letter(t, h, 0, 0x10ffff)
	noLetter(t, h, 1)
	letter(t, h, 2, 0)
	letter(t, h, 3, 1)
	letter(t, h, 4, 2)
	noLetter(t, h, 5, 'A'-1)
	letter(t, h, 'A', 'a')
	letter(t, h, 'M', 'm')
	letter(t, h, 'Z', 'z')
	noLetter(t, h, 'Z'+1, 'a'-1)
	letter(t, h, 'a', 'a')
	letter(t, h, 'm', 'm')
	letter(t, h, 'z', 'z')
	letter(t, h, 'z'+1, 7)
	noLetter(t, h, 'z'+2, 0xd7ff)
	letter(t, h, 0xd800, 0xdfff)
	letter(t, h, 0xd801, 0xe000)
	noLetter(t, h, 0xd802, api.Bad, 0x10ffef)
	letter(t, h, 0x10fff0, 0x10fff0)
	letter(t, h, 0x10ffff, 0x10ffff)
	noLetter(t, h, 0x110000, 0x7fffffff, -1, -2, -0x110000, -0x80000000)
}

// P9.2: all numbers may be letters, or none; what is no sign's number never is.
func TestLetterAllAndNone(t *testing.T) {
	beyond := []int32{-0x80000000, -0x7fffffff, -1, 0x110000, 0x7fffffff}
	all := made(t, "", []api.Range{{Lo: 0, Hi: 0x10ffff, To: 0}}, 1, 1)
	for _, r := range []int32{0, 1, '.', 'a', 0xd800, 0xdfff, api.Bad, 0xffff, 0x10000, 0x10ffff} {
		letter(t, all, r, r)
	}
	noLetter(t, all, beyond...)
	for _, none := range [][]api.Range{nil, {}} {
		h := made(t, "hy1p ta-ble", none, 1, 1)
		noLetter(t, h, 0, 1, 'a', 'z', api.Bad, 0x10ffff)
		noLetter(t, h, beyond...)
		texts(t, h, "", "a", "hyphen table")
		// What letters are isn't asked of a word.
		words(t, h, "hy|phen", "ta|ble")
	}
}

// P9.2: as many ranges as may be, each found by its own.
func TestLetterOfMany(t *testing.T) {
	h := made(t, "", many(256), 1, 1)
	for i := range int32(256) {
		lo := 10 * i
		noLetter(t, h, lo-1)
		letter(t, h, lo, 5000-lo)
		letter(t, h, lo+3, 5000-lo+3)
		letter(t, h, lo+4, 5000-lo+4)
		noLetter(t, h, lo+5, lo+6)
	}
}

// P9.2: as many letters as left says ahead of a point, and as right says behind it, at least.
func TestLeftRight(t *testing.T) {
	const every = "1a"
	for _, x := range []struct {
		left, right int
		wanted      []string
	}{
		{1, 1, []string{"", "a", "a|a", "a|a|a", "a|a|a|a", "a|a|a|a|a"}},
		{1, 2, []string{"", "a", "aa", "a|aa", "a|a|aa", "a|a|a|aa"}},
		{2, 1, []string{"", "a", "aa", "aa|a", "aa|a|a", "aa|a|a|a"}},
		{2, 2, []string{"", "a", "aa", "aaa", "aa|aa", "aa|a|aa"}},
		{1, 3, []string{"", "aaa", "a|aaa", "a|a|aaa"}},
		{4, 1, []string{"", "aaaa", "aaaa|a", "aaaa|a|a"}},
		{2, 4, []string{"", "aaaaa", "aa|aaaa", "aa|a|aaaa"}},
		{24, 24, []string{"", strings.Repeat("a", 47), strings.Repeat("a", 24) + "|" + strings.Repeat("a", 24), strings.Repeat("a", 24) + "|a|" + strings.Repeat("a", 24)}},
		{1, 24, []string{strings.Repeat("a", 24), "a|" + strings.Repeat("a", 24), "a|a|" + strings.Repeat("a", 24)}},
		{24, 1, []string{strings.Repeat("a", 24), strings.Repeat("a", 24) + "|a", strings.Repeat("a", 24) + "|a|a"}},
	} {
		h := made(t, every, small(), x.left, x.right)
		words(t, h, x.wanted...)
		texts(t, h, x.wanted...)
		for _, w := range x.wanted {
			texts(t, h, "  "+w+"1"+w+". ")
		}
	}
}

// P9.2: a value says a point if it is odd, and the greatest one of all patterns holds.
func TestOddValues(t *testing.T) {
	for d := range 10 {
		want := "ab"
		if d%2 == 1 {
			want = "a|b"
		}
		words(t, made(t, "a"+string(rune('0'+d))+"b", small(), 1, 1), want, "xy", "ba")
	}
	words(t, made(t, "a1b 2b", small(), 1, 1), "ab", "cb")
	words(t, made(t, "a2b 3b", small(), 1, 1), "a|b", "c|b")
	words(t, made(t, "a1b c2b ca3b 4b.", small(), 1, 1), "a|bc", "cbc", "ca|bc", "cab", "ab")
	words(t, made(t, "hy3ph he2n hena4 hen5at 1na n2at 1tio 2io", small(), 2, 2), "hy|phen|ation", "hy|phen")
	words(t, made(t, ".a1b b1a. .c1d.", small(), 1, 1), "a|b|a", "a|bab|a", "a|bab", "bab|a", "c|d", "cdc", "dcd")
	words(t, made(t, "", small(), 1, 1), "", "a", "ab", "hyphen")
	words(t, made(t, " \t\r\n", small(), 1, 1), "", "a", "ab", "hyphen")
}

// P9.2: of a word that is told, what is told holds alone; of any other one the patterns.
func TestTold(t *testing.T) {
	const text = "ta-ble 1l 1a a3b t1a2b a-b-c-d-e x-yz"
	words(t, made(t, text, small(), 1, 1), "ta|ble", "a|b|c|d|e", "x|yz")
	// Not the same letters: more, fewer, others.
	words(t, made(t, text, small(), 1, 1), "t|a|b|les", "t|a|b", "t|a|b|l", "st|a|b|le", "a|b|lets", "t|a|b|l|a", "a|bcd", "a|bcdef", "xy", "xyz|a")
	words(t, made(t, text, small(), 2, 2), "ta|ble", "ab|c|de", "xyz", "ta|b|les")
	words(t, made(t, text, small(), 2, 3), "ta|ble", "ab|cde", "xyz")
	// Without any point that is left, the patterns say none either.
	words(t, made(t, text, small(), 3, 1), "table", "abc|d|e", "xyz")
	words(t, made(t, text, small(), 1, 4), "table", "a|bcde", "xyz")
	words(t, made(t, text, small(), 24, 24), "table", "abcde", "xyz")
	// Several are told: each by its own.
	words(t, made(t, "ab-c a-bd abc-d a-b ba-c", small(), 1, 1), "ab|c", "a|bd", "abc|d", "a|b", "ba|c", "abcde", "cab")
	// The longest that may be told, and one letter more.
	long := strings.Repeat("x", 24)
	words(t, made(t, long[:5]+"-"+long[5:]+" 1x", small(), 2, 2), long[:5]+"|"+long[5:])
	words(t, made(t, long[:5]+"-"+long[5:], small(), 2, 2), long+"x", long[1:])
}

// P9.2: letters of patterns and of words that are told are those that signs lead to; they are not led on themselves.
func TestPatternsLettersStay(t *testing.T) {
	h := made(t, "hy1p HY1Q TA-ble o-ld", folded(), 1, 1)
	words(t, h, "hy|p", "HY|Q", "hyq", "HYP", "TA|ble", "table", "o|ld", "OLD")
	texts(t, h, "hy|p", "HY|P", "hyq", "HYQ", "TAble", "o|ld", "O|LD")
	next := made(t, "b1c c-de", []api.Range{{Lo: 'a', Hi: 'y', To: 'b'}}, 1, 1)
	words(t, next, "b|c", "b|cd", "ab", "c|de", "bde")
	texts(t, next, "a|b", "bc", "b|cd", "cde")
}
