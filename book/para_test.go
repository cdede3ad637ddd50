package book_test

import (
	"strings"
	"testing"

	"stanza/api"
)

// P20.2: of no text there are no clusters, and Must.
func TestParaOfNothing(t *testing.T) {
	for _, d := range []api.Data{simple(), rich()} {
		for _, text := range [][]byte{nil, {}} {
			p, e := made(t, d).Para(text)
			if e != api.OK || !equal(p, api.Para{Opps: []api.Opp{api.Must}}) {
				t.Errorf("P20.2: %v, error %d", p, e)
			}
		}
	}
}

// P20.2, R3: 4096 bytes are a text, one more is none, however few clusters they are.
func TestParaOfMany(t *testing.T) {
	for _, d := range []api.Data{simple(), rich()} {
		b := made(t, d)
		for _, piece := range []string{"a", "a ", "\n", "\xff", "\u0301", "\u65e5\u65e5\u65e5\u65e5\xe6\x97\xa5\xff"} {
			text := strings.Repeat(piece, api.MaxText+3)
			p, e := b.Para([]byte(text[:api.MaxText]))
			bytes := 0
			for _, c := range p.Clusters {
				bytes += c.Len
			}
			if e != api.OK || bytes != api.MaxText || len(p.Opps) != len(p.Clusters)+1 {
				t.Errorf("P20.2: 4096 bytes of %q: error %d, %d bytes", piece, e, bytes)
			}
			for _, n := range []int{api.MaxText + 1, api.MaxText + 2, len(text)} {
				if p, e := b.Para([]byte(text[:n])); e != api.ErrText || p.Clusters != nil || p.Opps != nil {
					t.Errorf("P20.2, R3: %d bytes of %q: error %d", n, piece, e)
				}
			}
		}
	}
}

// P20.2: the chapter's data.
func TestParaOfSimple(t *testing.T) {
	b := made(t, simple())
	shows(t, b, "ab cd\ne", `"a"p1.`, `"b"p1.`, `" "s1|`, `"c"p1.`, `"d"p1.`, `"\n"p0!`, `"e"p1!`)
	shows(t, b, " ", `" "s1!`)
	shows(t, b, "\n", `"\n"p0!`)
	shows(t, b, "\n\n", `"\n"p0!`, `"\n"p0!`)
	shows(t, b, "a  b", `"a"p1.`, `" "s1.`, `" "s1|`, `"b"p1!`)
	shows(t, b, "a\t\x7f~", `"a"p1.`, `"\t"t0.`, `"\x7f"p0.`, `"~"p1!`)
}

// P20.2, P1.1: bytes that are no sign are as many signs as they are read as, each of the class and the cells of Bad.
func TestParaOfBadBytes(t *testing.T) {
	b := made(t, rich())
	shows(t, b, "\xf0\x9f\x98A\xff\xc3", `"\xf0\x9f\x98"p1.`, `"A"p1.`, `"\xff"p1.`, `"\xc3"p1!`)
	shows(t, b, "\xed\xa0\x80", `"\xed"p1.`, `"\xa0"p1.`, `"\x80"p1!`)
	shows(t, b, "\xcc\u0301\x81", `"\xcc\u0301"p1.`, `"\x81"p1!`)
	d := simple()
	d.Breaks = []api.Range{{Lo: api.Bad, Hi: api.Bad, To: 2}}
	d.Cells = []api.Range{{Lo: api.Bad, Hi: api.Bad, To: 2}}
	shows(t, made(t, d), "a\xe6\x97b\ufffd\xff\xff", `"a"p0.`, `"\xe6\x97"p2!`, `"b"p0.`, `"\ufffd"p2!`, `"\xff"p2!`, `"\xff"p2!`)
}

// P20.2, P10.1, P11.1: where the marks keep signs together, the breaks say nothing, not even Must.
func TestMarksKeepOverBreaks(t *testing.T) {
	d := simple()
	d.Marks = []api.Range{{Lo: 10, Hi: 10, To: 1}, {Lo: 'k', Hi: 'k', To: 1}}
	d.MarkRules = "class O K; keep K / K; may . / .;"
	b := made(t, d)
	shows(t, b, "a\n\nb", `"a"p1.`, `"\n\n"p0!`, `"b"p1!`)
	shows(t, b, "a\nkb", `"a"p1.`, `"\nk"p1.`, `"b"p1!`)
	shows(t, b, "k\n \n", `"k\n"p1!`, `" "s1|`, `"\n"p0!`)
	d.MarkRules = "class O K; keep . / .;"
	b = made(t, d)
	shows(t, b, "a b\n\t", `"a b\n\t"p1!`)
	shows(t, b, "a", `"a"p1!`)
	shows(t, b, "\t", `"\t"t0!`)
	shows(t, b, "  ", `"  "p1!`)
}

// P20.2, P10.1: whatever the marks say but Keep, a cluster begins there; what the text has there the breaks say.
func TestMarksThatPart(t *testing.T) {
	for _, does := range []string{"may", "must"} {
		d := simple()
		d.MarkRules = "class O; " + does + " O / O;"
		b := made(t, d)
		shows(t, b, "ab c", `"a"p1.`, `"b"p1.`, `" "s1|`, `"c"p1!`)
		d.MarkRules = "class O;"
		shows(t, made(t, d), "ab c", `"a"p1.`, `"b"p1.`, `" "s1|`, `"c"p1!`)
	}
}

// P20.2: each machine is asked by its own table.
func TestTwoMachines(t *testing.T) {
	d := simple()
	d.Marks = []api.Range{{Lo: 'a', Hi: 'a', To: 1}}
	d.MarkRules = "class O K; keep K / O; may . / .;"
	d.Breaks = []api.Range{{Lo: 'b', Hi: 'b', To: 1}}
	d.BreakRules = "class O K; must K / O; keep . / .;"
	shows(t, made(t, d), "bcacbabc", `"b"p1!`, `"c"p1.`, `"ac"p1.`, `"b"p1!`, `"ab"p1!`, `"c"p1!`)
	d.Marks, d.Breaks = d.Breaks, d.Marks
	shows(t, made(t, d), "bcacbabc", `"bc"p1.`, `"a"p1!`, `"c"p1.`, `"ba"p1!`, `"bc"p1!`)
}

// P20.2, P6.2: what joins is kept with what is ahead, for the marks and for the breaks.
func TestJoins(t *testing.T) {
	d := simple()
	joined := []api.Range{{Lo: '+', Hi: '+', To: 1}}
	d.Marks, d.MarkRules = joined, "class O J; join J / O;"
	d.Breaks, d.BreakRules = joined, "class O J; must . / .;"
	shows(t, made(t, d), "a++b+", `"a++"p1!`, `"b+"p1!`)
	shows(t, made(t, d), "+a", `"+"p1!`, `"a"p1!`)
	d.MarkRules, d.BreakRules = d.BreakRules, d.MarkRules
	shows(t, made(t, d), "a++b+", `"a"p1.`, `"+"p1.`, `"+"p1|`, `"b"p1.`, `"+"p1!`)
}

// P20.2, P9.2, P11.1: where a word may be cut, and the breaks keep, stands Hyphen; not at a word's ends, nor where the breaks say something else, nor within a cluster.
func TestPoints(t *testing.T) {
	d := simple()
	d.Letters = []api.Range{{Lo: 'A', Hi: 'Z', To: 'a'}, {Lo: 'a', Hi: 'z', To: 'a'}}
	d.Patterns = "1b1 x-y"
	d.Left, d.Right = 1, 1
	b := made(t, d)
	shows(t, b, "abc", `"a"p1-`, `"b"p1-`, `"c"p1!`)
	shows(t, b, "bcb", `"b"p1-`, `"c"p1-`, `"b"p1!`)
	shows(t, b, "aBc xY", `"a"p1-`, `"B"p1-`, `"c"p1.`, `" "s1|`, `"x"p1-`, `"Y"p1!`)
	shows(t, b, "b b", `"b"p1.`, `" "s1|`, `"b"p1!`)
	shows(t, b, "b", `"b"p1!`)
	shows(t, b, ".b.", `"."p1.`, `"b"p1.`, `"."p1!`)
	d.Left = 2
	shows(t, made(t, d), "abc xy", `"a"p1.`, `"b"p1-`, `"c"p1.`, `" "s1|`, `"x"p1.`, `"y"p1!`)
	d.Left, d.Right = 1, 2
	shows(t, made(t, d), "abc xy", `"a"p1-`, `"b"p1.`, `"c"p1.`, `" "s1|`, `"x"p1.`, `"y"p1!`)
	d.Right = 1
	d.Breaks = append(d.Breaks, api.Range{Lo: 'a', Hi: 'a', To: 1}, api.Range{Lo: 'c', Hi: 'c', To: 2})
	shows(t, made(t, d), "abcbd", `"a"p1|`, `"b"p1-`, `"c"p1!`, `"b"p1-`, `"d"p1!`)
	d.Breaks = d.Breaks[:2]
	d.Marks = []api.Range{{Lo: 'c', Hi: 'c', To: 1}}
	d.MarkRules = "class O K; keep . / K;"
	shows(t, made(t, d), "abcbd", `"a"p1-`, `"bc"p1-`, `"b"p1-`, `"d"p1!`)
}

// P20.2: of signs that no range names the class is the first one, and there are no cells.
func TestSignsWithoutRanges(t *testing.T) {
	d := simple()
	d.MarkRules = "class O K; keep O / O;"
	d.Marks = []api.Range{{Lo: 'k', Hi: 'k', To: 1}}
	d.BreakRules = "class O K; must O / K; keep . / .;"
	d.Breaks = []api.Range{{Lo: 'k', Hi: 'k', To: 1}}
	d.Cells = []api.Range{{Lo: 'k', Hi: 'k', To: 2}}
	b := made(t, d)
	shows(t, b, "\u00e9\U0010ffffk\x00 ", `"\u00e9\U0010ffff"p0!`, `"k"p2.`, `"\x00 "p0!`)
	d.Marks, d.Breaks, d.Cells = nil, nil, nil
	shows(t, made(t, d), "k \t\u65e5", `"k \t\u65e5"p0!`)
	d.MarkRules = "class O;"
	shows(t, made(t, d), "k \t\u65e5", `"k"p0.`, `" "s0.`, `"\t"t0.`, `"\u65e5"p0!`)
}

// P20.2: all of it together.
func TestParaOfRich(t *testing.T) {
	b := made(t, rich())
	shows(t, b, "Hyphen table.\r\n", `"H"p1.`, `"y"p1-`, `"p"p1.`, `"h"p1.`, `"e"p1.`, `"n"p1.`, `" "s1|`, `"t"p1.`, `"a"p1-`, `"b"p1.`, `"l"p1.`, `"e"p1.`, `"."p1.`, `"\r\n"p0!`)
	shows(t, b, "\n\r\r\n\n", `"\n"p0!`, `"\r"p0!`, `"\r\n"p0!`, `"\n"p0!`)
	shows(t, b, "\u65e5\u672ca\u0301\u0301 -b-c", `"\u65e5"p2|`, `"\u672c"p2|`, `"a\u0301\u0301"p1.`, `" "s1|`, `"-"p1.`, `"b"p1.`, `"-"p1|`, `"c"p1!`)
	shows(t, b, " \u0301\t\u0301", `" \u0301"p1.`, `"\t\u0301"p0!`)
	shows(t, b, "ab\u00c9cd", `"a"p1.`, `"b"p1-`, `"\u00c9"p1-`, `"c"p1.`, `"d"p1!`)
}

// P20.2, R7: a nil book has no texts, whatever is asked.
func TestParaOfNil(t *testing.T) {
	for _, text := range [][]byte{nil, []byte("a"), make([]byte, api.MaxText+1)} {
		if p, e := nilBook().Para(text); e != api.ErrNil || p.Clusters != nil || p.Opps != nil {
			t.Errorf("P20.2, R7: %d bytes: %v, error %d", len(text), p, e)
		}
	}
}
