package pats_test

import (
	"strings"
	"testing"

	"stanza/api"
	"stanza/pats"
)

// toldWords are so many words that are told, of 3 bytes and a blank each, no two alike.
func toldWords(n int) string {
	var b strings.Builder
	for i := range n {
		b.Write([]byte{byte('a' + i/20), '-', byte('a' + i%20), ' '})
	}
	return b.String()
}

// P7.1: as many signs as may be and one more, of both kinds; points are signs, digits and - are none.
func TestLetters(t *testing.T) {
	most := strings.Repeat("x", 24)
	none := strings.Repeat("0", 25)
	good(t, most, both(list(pat(most, none)), nil))
	bad(t, most+"x", at(api.ErrPattern, 0))
	bad(t, strings.Repeat("x", api.MaxSource), at(api.ErrPattern, 0))

	good(t, "1"+strings.Repeat("x1", 24), both(list(pat(most, strings.Repeat("1", 25))), nil))
	bad(t, strings.Repeat("x1", 25), at(api.ErrPattern, 0))

	good(t, "."+most[1:], both(list(pat("."+most[1:], none)), nil))
	good(t, most[1:]+".", both(list(pat(most[1:]+".", none)), nil))
	good(t, "."+most[2:]+".", both(list(pat("."+most[2:]+".", none)), nil))
	bad(t, "."+most, at(api.ErrPattern, 0))
	bad(t, most+".", at(api.ErrPattern, 0))
	bad(t, "."+most[1:]+".", at(api.ErrPattern, 0))

	good(t, "x-"+most[1:], both(nil, list(pat(most, "01"+none[2:]))))
	good(t, strings.Repeat("x-", 23)+"x", both(nil, list(pat(most, "0"+strings.Repeat("1", 23)+"0"))))
	bad(t, "x-"+most, at(api.ErrPattern, 0))
	bad(t, strings.Repeat("x-", 24)+"x", at(api.ErrPattern, 0))

	// They are counted, not their bytes.
	for _, sign := range []string{"\u00e9", "\u20ac", "\U0001f600"} {
		most := strings.Repeat(sign, 24)
		good(t, most+" a "+sign+"-"+most[len(sign):], both(list(pat(most, none), pat("a", "00")), list(pat(most, "01"+none[2:]))))
		bad(t, "a "+most+sign, at(api.ErrPattern, 2))
		bad(t, sign+"-"+most, at(api.ErrPattern, 0))
	}
}

// P7.1: as many patterns and words together as may be, and one more, at its first byte.
func TestMany(t *testing.T) {
	for _, told := range []int{0, 1, 100, 255, 256} {
		text := strings.Repeat("a ", 256-told) + toldWords(told)
		p, f := pats.Parse(text)
		if f != (api.Fault{}) || len(p.List) != 256-told || len(p.Words) != told {
			t.Errorf("P7.1: 256, %d of them told: %d, %d, fault %v", told, len(p.List), len(p.Words), f)
		}
		for _, more := range []string{"b", "1b", "z-z", "a", "a-a", "-", "12", "\xff", ".", strings.Repeat("x", 25)} {
			bad(t, text+more, at(api.ErrMany, len(text)))
			bad(t, text+" \n"+more+" - b", at(api.ErrMany, len(text)+2))
		}
		full := text + strings.Repeat("\n", api.MaxSource-len(text))
		if p, f := pats.Parse(full); f != (api.Fault{}) || len(p.List)+len(p.Words) != 256 {
			t.Errorf("P7.1: 256 and blanks: fault %v", f)
		}
		bad(t, full[:api.MaxSource-1]+"b", at(api.ErrMany, api.MaxSource-1))
	}
	// A fault in the 256th word is still its own.
	text := strings.Repeat("a ", 255)
	bad(t, text+"- b", at(api.ErrPattern, 510))
	bad(t, "a-b "+text[2:]+"ab- b", at(api.ErrPattern, 512))
	bad(t, "a-b "+text[2:]+"a-b b", at(api.ErrTwice, 512))
}

// P7.1: a word that is told twice, also cut otherwise; what isn't told, or has other letters, is no second one.
func TestTwice(t *testing.T) {
	for text, where := range map[string]int{
		"a-b a-b": 4, "abc-d a-bcd": 6, "abc-d a-b-c-d": 6, "a-b-c-d ab-cd": 8, "a-b c-d e-f c-d": 12, "a-b ab a-b": 7,
		"a-b\n\n a-b a-b": 6, "x-y a1b ab a-b 1ab .ab. a-b": 24, "\u00e9-a \u20ac-a \u00e9-a": 11, "a-b a-b -": 4, " a-a-a aa-a": 7,
	} {
		bad(t, text, at(api.ErrTwice, where))
	}
	good(t, "a-b ab 1ab a1b ab", both(list(pat("ab", "000"), pat("ab", "100"), pat("ab", "010"), pat("ab", "000")), list(pat("ab", "010"))))
	good(t, "ab a-b", both(list(pat("ab", "000")), list(pat("ab", "010"))))
	good(t, "a1b a1b a1b", both(list(pat("ab", "010"), pat("ab", "010"), pat("ab", "010")), nil))
	good(t, "a-b A-b a-B b-a a-b-c a-a b-c", both(nil, list(pat("ab", "010"), pat("Ab", "010"), pat("aB", "010"), pat("ba", "010"), pat("abc", "0110"), pat("aa", "010"), pat("bc", "010"))))
	good(t, "\u00e9-a e\u0301-a", both(nil, list(pat("\u00e9a", "010"), pat("e\u0301a", "0010"))))
	bad(t, toldWords(255)+"am-m mm-a m-n mm-a", at(api.ErrMany, 255*4+5))
	bad(t, toldWords(100)+"a-a", at(api.ErrTwice, 400))
	bad(t, toldWords(100)+"e-t", at(api.ErrTwice, 400))
	if p, f := pats.Parse(toldWords(100) + "f-a"); f != (api.Fault{}) || len(p.Words) != 101 {
		t.Errorf("P7.1: 101 words, no two alike: %d, fault %v", len(p.Words), f)
	}
}

// P7.1: of a text that has several faults, the first word's; of a word that has several, the first one named.
func TestFirstFault(t *testing.T) {
	for text, want := range map[string]api.Fault{
		"- a-b a-b":      at(api.ErrPattern, 0),
		"a-b a-b -":      at(api.ErrTwice, 4),
		"a-b - a-b":      at(api.ErrPattern, 4),
		"ab 1. -a 12":    at(api.ErrPattern, 3),
		"a-b a-b- a-b":   at(api.ErrPattern, 4),
		"a-b a--b":       at(api.ErrPattern, 4),
		"a-b a-b1":       at(api.ErrPattern, 4),
		"a-b .a-b":       at(api.ErrPattern, 4),
		"ab abc1d.e":     at(api.ErrPattern, 3),
		"\u00e9 \u20ac-": at(api.ErrPattern, 3),
		"a \xff b \xff":  at(api.ErrPattern, 2),
	} {
		bad(t, text, want)
	}
}

// P7.1: a text as long as may be, and one byte longer: that is looked at ahead of all words.
func TestSource(t *testing.T) {
	word := "1a b-c"
	want := both(list(pat("a", "10")), list(pat("bc", "010")))
	blanks := strings.Repeat(" ", api.MaxSource-len(word))
	good(t, word+blanks, want)
	good(t, blanks+word, want)
	bad(t, word+blanks+" ", at(api.ErrMany, api.MaxSource))
	bad(t, " "+blanks+word, at(api.ErrMany, api.MaxSource))
	bad(t, word+blanks+blanks, at(api.ErrMany, api.MaxSource))
	bad(t, strings.Repeat("-", api.MaxSource), at(api.ErrPattern, 0))
	bad(t, strings.Repeat("-", api.MaxSource+1), at(api.ErrMany, api.MaxSource))
	bad(t, strings.Repeat("a ", api.MaxSource), at(api.ErrMany, api.MaxSource))
	bad(t, strings.Repeat("a ", api.MaxSource/2), at(api.ErrMany, 512))
	bad(t, blanks[:api.MaxSource-1-len(word)]+word+"1", at(api.ErrPattern, api.MaxSource-4))
	good(t, strings.Repeat("\n", api.MaxSource), api.Patterns{})
	bad(t, strings.Repeat("\n", api.MaxSource+1), at(api.ErrMany, api.MaxSource))
	// It is counted in bytes, not in signs.
	bad(t, strings.Repeat("\u20ac ", 1025), at(api.ErrMany, api.MaxSource))
}
