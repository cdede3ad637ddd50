package book_test

import (
	"math"
	"slices"
	"strconv"
	"strings"
	"testing"

	"stanza/api"
	"stanza/book"
)

// greatest is data with as much of all as may be: classes, rules, places, ranges, patterns.
func greatest() api.Data {
	var classes, marks, breaks, words strings.Builder
	for c := range api.MaxClasses {
		classes.WriteString(" c" + strconv.Itoa(c))
	}
	for r := range api.MaxRules {
		c := "c" + strconv.Itoa(r)
		marks.WriteString("keep " + c + " " + c + " " + c + "* / " + c + "+ " + c + " " + c + ";")
		// More rules that look back twice would have too many states.
		if r < 10 {
			breaks.WriteString("may " + c + " . / . " + c + ";")
		} else {
			breaks.WriteString("keep " + c + " / [^" + c + "];")
		}
	}
	for i := range api.MaxPatterns {
		words.WriteString(string([]byte{'a' + byte(i%16), 'a' + byte(i/16)}) + "1abc" + strconv.Itoa(i%10) + " ")
	}
	ranges := make([]api.Range, api.MaxRanges)
	for i := range ranges {
		ranges[i] = api.Range{Lo: int32(4 * i), Hi: int32(4*i + 2), To: i % api.MaxClasses}
	}
	d := api.Data{
		Marks: ranges, Breaks: ranges, Cells: many(api.MaxRanges, 1), Letters: many(api.MaxRanges, 'a'),
		MarkRules: "class" + classes.String() + ";" + marks.String(), BreakRules: "class" + classes.String() + ";" + breaks.String(),
		Patterns: words.String(), Left: 1, Right: api.MaxLetters,
	}
	d.Letters[48] = api.Range{Lo: 'a' - 1, Hi: 'z', To: 'a' - 1}
	for i := 49; i < len(d.Letters); i++ {
		d.Letters[i].Lo, d.Letters[i].Hi = int32(200+i), int32(200+i)
	}
	return d
}

// ways are some with the edges of all numbers, in both modes.
func ways() []api.Config {
	var l []api.Config
	for _, width := range []int{1, 79, api.MaxWidth} {
		for _, most := range []float64{2, math.NaN()} {
			l = append(l, api.Config{Width: width, Tab: 1, Mode: api.Best, Loose: most})
			l = append(l, api.Config{Width: width, Tab: api.MaxTab, Mode: api.Best, Hyphen: api.MaxCost, Pair: api.MaxCost, Loose: most})
		}
		l = append(l, way(width))
	}
	return l
}

// P1, P4, P5: every call ends, of 4096 bytes of any kind too, by data with as much as may be.
func TestLarge(t *testing.T) {
	for _, d := range []api.Data{simple(), rich(), greatest()} {
		b := made(t, d)
		for _, piece := range []string{"a", "abc", "\n", " ", "\t", "\u0301", "\xff", "\xf0\x9f", "hyphen table ", "\u65e5 ", "\r\n", "aabcabc-abc \n"} {
			text := []byte(strings.Repeat(piece, api.MaxText)[:api.MaxText])
			p, e := b.Para(text)
			if e != api.OK {
				t.Fatalf("P1: %q: error %d", piece, e)
			}
			for _, c := range ways() {
				l, e := b.Lay(text, c)
				if e != api.OK || l.Loose && c.Mode == api.First {
					t.Fatalf("P1, P3: %q by %v: error %d, %v", piece, c, e, l.Loose)
				}
				holdEnds(t, p, linesOf(t, p, text, l.Rows))
			}
		}
	}
}

// P5, P6: 1024 words of one part, which fill their rows two by two, in both modes however loose they may be.
func TestLargeWords(t *testing.T) {
	b := made(t, simple())
	text := strings.Repeat("ab cdef ", api.MaxText/8)
	want := slices.Repeat([]string{"ab cdef |7"}, api.MaxText/8)
	want[len(want)-1] = "ab cdef !7"
	lays(t, b, text, way(7), false, want...)
	for _, most := range looses {
		lays(t, b, text, best(7, most), most < 0, want...)
	}
}

// P1: a book that New didn't make answers something.
func TestZeroBook(t *testing.T) {
	var b book.Book
	for _, text := range []string{"", "a b\n", strings.Repeat("a", api.MaxText), strings.Repeat("a", api.MaxText+1)} {
		for _, c := range []api.Config{way(1), best(3, 1), {}} {
			b.Para([]byte(text))
			b.Lay([]byte(text), c)
		}
	}
}
