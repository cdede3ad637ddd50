package pats_test

import (
	"slices"
	"strings"
	"testing"

	"stanza/api"
	"stanza/pats"
)

// pat is a pattern, or a word that is told: its letters as a text, its values as digits.
func pat(letters, values string) api.Pattern {
	p := api.Pattern{Letters: []int32(letters)}
	for _, c := range []byte(values) {
		p.Values = append(p.Values, c-'0')
	}
	return p
}

func list(l ...api.Pattern) []api.Pattern         { return l }
func both(list, words []api.Pattern) api.Patterns { return api.Patterns{List: list, Words: words} }
func at(e api.Errno, n int) api.Fault             { return api.Fault{Code: e, At: n} }

// sameList holds patterns against each other; a list that is nil is one that is empty (R5).
func sameList(a, b []api.Pattern) bool {
	return slices.EqualFunc(a, b, func(x, y api.Pattern) bool {
		return slices.Equal(x.Letters, y.Letters) && slices.Equal(x.Values, y.Values)
	})
}

func samePatterns(a, b api.Patterns) bool {
	return sameList(a.List, b.List) && sameList(a.Words, b.Words)
}

// good reads a text that has no fault, and holds what it says against what is wanted.
func good(t *testing.T, text string, want api.Patterns) {
	t.Helper()
	got, f := pats.Parse(text)
	if f != (api.Fault{}) {
		t.Errorf("P7.1: %.80q: fault %v, want none", text, f)
	} else if !samePatterns(got, want) {
		t.Errorf("P7.1: %.80q: %v, want %v", text, got, want)
	}
}

// bad reads a text that has this fault: every other result is zero (R3).
func bad(t *testing.T, text string, want api.Fault) {
	t.Helper()
	got, f := pats.Parse(text)
	if f != want {
		t.Errorf("P7.1: %.80q: fault %v, want %v", text, f, want)
	}
	if len(got.List) != 0 || len(got.Words) != 0 {
		t.Errorf("R3: %.80q: %v beside a fault", text, got)
	}
}

func TestExamples(t *testing.T) {
	good(t, ".hy1p 2a ta-ble", both(list(pat(".hyp", "00010"), pat("a", "20")), list(pat("table", "001000"))))
	for _, word := range strings.Fields("a12b a.b . -a a--b a1-b") {
		bad(t, word, at(api.ErrPattern, 0))
	}
}

// P7.1: digits between any two signs, ahead of the first and behind the last one, and none.
func TestPatterns(t *testing.T) {
	for word, want := range map[string]api.Pattern{
		"a":       pat("a", "00"),
		"ab":      pat("ab", "000"),
		"1a":      pat("a", "10"),
		"a1":      pat("a", "01"),
		"1a2":     pat("a", "12"),
		"a1b":     pat("ab", "010"),
		"1ab":     pat("ab", "100"),
		"ab1":     pat("ab", "001"),
		"3a5b7":   pat("ab", "357"),
		"a4bc6d":  pat("abcd", "04060"),
		"1a2b3c4": pat("abc", "1234"),
		"0a0b0":   pat("ab", "000"),
		"aa1aa":   pat("aaaa", "00100"),
		"hy3phe":  pat("hyphe", "003000"),
		"A1b":     pat("Ab", "010"),
	} {
		good(t, word, both(list(want), nil))
	}
	for digit := range 10 {
		d := string([]byte{byte('0' + digit)})
		good(t, d+"x"+d+"y"+d, both(list(pat("xy", d+d+d)), nil))
	}
}

// P7.1: points as the first sign, as the last one and as both; digits stand only inside of them.
func TestPoints(t *testing.T) {
	for word, want := range map[string]api.Pattern{
		".a":     pat(".a", "000"),
		"a.":     pat("a.", "000"),
		".a.":    pat(".a.", "0000"),
		".1a":    pat(".a", "010"),
		"a1.":    pat("a.", "010"),
		".1a2.":  pat(".a.", "0120"),
		".a3b.":  pat(".ab.", "00300"),
		".a1":    pat(".a", "001"),
		"1a.":    pat("a.", "100"),
		"2a1b4.": pat("ab.", "2140"),
		".0a0.":  pat(".a.", "0000"),
	} {
		good(t, word, both(list(want), nil))
	}
	for _, word := range strings.Fields("a.b .a.b a.b. .a.b. a1.b a.1b a..b ab.cd") {
		bad(t, word, at(api.ErrPattern, 0)) // within
	}
	for _, word := range strings.Fields(". .. ... .... .1 1. .1. 1.1 ..1 1.. 0. .0 .0.") {
		bad(t, word, at(api.ErrPattern, 0)) // no sign but points
	}
	for _, word := range strings.Fields("..a a.. ..a.. .1.a a.1. .a.. ..a.") {
		bad(t, word, at(api.ErrPattern, 0)) // two at one end
	}
	for _, word := range strings.Fields("1.a a.1 0.a a.0 1.a. .a.1 1.a.1 9.1a a1.9") {
		bad(t, word, at(api.ErrPattern, 0)) // a digit outside
	}
}

// P7.1: words that are told, with one - and with several.
func TestTold(t *testing.T) {
	for word, want := range map[string]api.Pattern{
		"a-b":          pat("ab", "010"),
		"ta-ble":       pat("table", "001000"),
		"as-so-ciate":  pat("associate", "0010100000"),
		"a-b-c-d":      pat("abcd", "01110"),
		"project-s":    pat("projects", "000000010"),
		"A-a":          pat("Aa", "010"),
		"'-\"":         pat("'\"", "010"),
		"a-a-a":        pat("aaa", "0110"),
		"\xc3\xa9-t-e": pat("éte", "0110"),
	} {
		good(t, word, both(nil, list(want)))
	}
	for _, word := range strings.Fields("- -- --- -a a- -a- a-b- -a-b -a-b- a--b a---b a-b--c a--") {
		bad(t, word, at(api.ErrPattern, 0)) // at an end, two in a row
	}
	for _, word := range strings.Fields("a1-b a-1b a1b-c a-b1 1a-b a-b-c2 -1 1- 1-1 0a-b a-0 a-1-b 1-b a-b0") {
		bad(t, word, at(api.ErrPattern, 0)) // a digit and a -
	}
	for _, word := range strings.Fields(".a-b a-b. a.-b a-.b a.b-c .-a a-. .-. .- -. .a-b.") {
		bad(t, word, at(api.ErrPattern, 0)) // a point
	}
}

// P7.1: a digit alone has no sign, and no two digits stand in a row.
func TestDigits(t *testing.T) {
	for _, word := range strings.Fields("0 1 9 12 00 a12b a00b 12a a12 10a a01 .12a a12. a1b23c a123b") {
		bad(t, word, at(api.ErrPattern, 0))
	}
	// Only 0 to 9 are digits: others are signs.
	good(t, "a\u0661\u0662b \u0663 x\u00b2 \uff11-\uff12",
		both(list(pat("a\u0661\u0662b", "00000"), pat("\u0663", "00"), pat("x\u00b2", "000")), list(pat("\uff11\uff12", "010"))))
}

// P7.1: signs are those of chapter 1, of one to four bytes.
func TestSigns(t *testing.T) {
	good(t, "\u00e91\u00df \u20ac2\uffff3 \U0001f6004\U0010ffff .\u4e00. 5\u00e96",
		both(list(pat("\u00e9\u00df", "010"), pat("\u20ac\uffff", "023"), pat("\U0001f600\U0010ffff", "040"), pat(".\u4e00.", "0000"), pat("\u00e9", "56")), nil))
	good(t, "\u00e9-\u20ac\U0001f600-x", both(nil, list(pat("\u00e9\u20ac\U0001f600x", "01010"))))
	good(t, "\u0080 \u07ff \u0800 \ud7ff \ue000 \ufffc \ufffe \U00010000",
		both(list(pat("\u0080", "00"), pat("\u07ff", "00"), pat("\u0800", "00"), pat("\ud7ff", "00"), pat("\ue000", "00"), pat("\ufffc", "00"), pat("\ufffe", "00"), pat("\U00010000", "00")), nil))
}

// P7.1: every byte of one sign but digits, -, . and the four blanks is a sign of patterns and of words.
func TestSmallSigns(t *testing.T) {
	for c := range 0x80 {
		s := string(rune(c))
		switch {
		case strings.Contains(" \t\n\r", s):
			good(t, s, api.Patterns{})
			good(t, "a"+s+"b", both(list(pat("a", "00"), pat("b", "00")), nil))
		case strings.Contains("0123456789", s):
			bad(t, s, at(api.ErrPattern, 0))
			good(t, "a"+s+"b", both(list(pat("ab", "0"+s+"0")), nil))
		case s == "-":
			good(t, "a-b", both(nil, list(pat("ab", "010"))))
		case s == ".":
			bad(t, "a.b", at(api.ErrPattern, 0))
		default:
			good(t, s+" a1"+s+" "+s+"-b", both(list(pat(s, "00"), pat("a"+s, "010")), list(pat(s+"b", "010"))))
		}
	}
}

// P7.1: the sign FFFD, written out or read of bytes that are none, is none.
func TestNoSigns(t *testing.T) {
	for _, none := range []string{
		"\ufffd", "\xff", "\x80", "\xc3", "\xc0\x80", "\xe2\x82", "\xed\xa0\x80", "\xf0\x9f\x98", "\xf4\x90\x80\x80", "\xf8", "\xfe",
	} {
		for _, word := range []string{none, "a" + none, none + "a", "a" + none + "b", "1" + none + "2", "." + none, none + ".", "a-" + none, none + "-a", "a-b" + none + "c", none + "-" + none} {
			bad(t, word, at(api.ErrPattern, 0))
			bad(t, "ab c-d "+word+" e", at(api.ErrPattern, 7))
		}
	}
	// Bytes that begin a sign end where a blank stands.
	bad(t, "a \xe2\x82 b", at(api.ErrPattern, 2))
	bad(t, "\xc3\n\xa9", at(api.ErrPattern, 0))
}

// P7.1: words stand between blanks, which are four signs, alone and in rows, also at both ends.
func TestBlanks(t *testing.T) {
	want := both(list(pat("a", "10"), pat("b", "02")), list(pat("cd", "010")))
	for _, x := range []string{" ", "\t", "\n", "\r", "  ", "\r\n", "\n\n", " \t\n\r", "\r \n\t \t"} {
		good(t, "1a"+x+"c-d"+x+"b2", want)
		good(t, x+"1a"+x+"c-d"+x+"b2", want)
		good(t, "1a"+x+"c-d"+x+"b2"+x, want)
		good(t, x+"1a"+x+x+"b2"+x+"c-d"+x, want)
		good(t, x, api.Patterns{})
		bad(t, x+"-a", at(api.ErrPattern, len(x)))
		bad(t, x+"a"+x+"-"+x, at(api.ErrPattern, 2*len(x)+1))
	}
	good(t, "", api.Patterns{})
	// Other signs that are seen as blanks are none here.
	for _, s := range []string{"\v", "\f", "\u0085", "\u00a0", "\u2028", "\u3000", "\ufeff", "\x00"} {
		good(t, "a"+s+"b", both(list(pat("a"+s+"b", "0000")), nil))
	}
}

// P7.1: both lists, each in its order.
func TestOrder(t *testing.T) {
	good(t, "z-a c3 a-z 2b .a y-b 1b a",
		both(list(pat("c", "03"), pat("b", "20"), pat(".a", "000"), pat("b", "10"), pat("a", "00")), list(pat("za", "010"), pat("az", "010"), pat("yb", "010"))))
}
