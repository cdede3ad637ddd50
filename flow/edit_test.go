package flow_test

import (
	"math"
	"strings"
	"testing"

	"stanza/api"
)

// P21.2, R4: each error of a change, behind which all answers are what they were.
func TestRefused(t *testing.T) {
	for _, c := range []api.Config{way(4), best(4, 2)} {
		for _, text := range []string{"", "a", "ab cd\nhyphen\u0301 \u65e5\t", "\n\n"} {
			x := start(t, made(t, rich()), c, text)
			n := len(text)
			for _, at := range []int{math.MinInt, -1, n + 1, n + 2, math.MaxInt} {
				x.refuse(put(at, 0, ""), api.ErrEdit)
				x.refuse(put(at, n, "x"), api.ErrEdit)
				x.refuse(put(at, math.MaxInt, "x"), api.ErrEdit)
			}
			for _, del := range []int{math.MinInt, -1, n + 1, math.MaxInt - n, math.MaxInt} {
				x.refuse(put(0, del, ""), api.ErrEdit)
				x.refuse(put(0, del, "\n"), api.ErrEdit)
				x.refuse(put(n, max(del, -1), "x"), api.ErrEdit)
			}
			for at := range n + 1 {
				x.refuse(put(at, n-at+1, ""), api.ErrEdit)
			}
			x.refuse(put(0, n, strings.Repeat("a", api.MaxText+1)), api.ErrText)
			x.refuse(put(n, 0, strings.Repeat("a", api.MaxText-n+1)), api.ErrText)
			x.refuse(put(0, 0, strings.Repeat("\n", 3*api.MaxText)), api.ErrText)
			x.refuse(put(-1, 0, strings.Repeat("a", api.MaxText+1)), api.ErrEdit)
			x.refuse(put(0, n+1, strings.Repeat("a", api.MaxText+1)), api.ErrEdit)
			x.edit(n, 0, "ab")
			x.refuse(put(n, 3, ""), api.ErrEdit)
		}
	}
}

// P21.2: a text of as many bytes as may be stays so long, or gets shorter.
func TestFull(t *testing.T) {
	x := start(t, made(t, rich()), way(9), strings.Repeat("a table\n", api.MaxText/8))
	for _, at := range []int{0, 100, api.MaxText} {
		x.refuse(put(at, 0, "b"), api.ErrText)
	}
	x.refuse(put(0, 1, "ab"), api.ErrText)
	x.edit(8, 7, "hyphens")
	x.edit(8, 8, "")
	x.edit(api.MaxText-8, 0, "b c d e\n")
	x.refuse(put(0, 0, "b"), api.ErrText)
	x.edit(0, api.MaxText, strings.Repeat("\n", api.MaxText))
	x.edit(0, api.MaxText, "")
	x.rows(false, "!0")
}

// P21.2: changes at the beginning, at the end, of all of the text, of nothing.
func TestChanges(t *testing.T) {
	x := start(t, made(t, simple()), way(3), "ab cd\ne")
	x.edit(0, 0, "x ")
	x.rows(false, "x |1", "ab |2", "cd\n!2", "e!1")
	x.edit(9, 0, "fg")
	x.rows(false, "x |1", "ab |2", "cd\n!2", "efg!3")
	x.edit(11, 0, "\n")
	x.rows(false, "x |1", "ab |2", "cd\n!2", "efg\n!3")
	x.edit(12, 0, "")
	x.edit(0, 0, "")
	x.edit(5, 0, "")
	x.rows(false, "x |1", "ab |2", "cd\n!2", "efg\n!3")
	x.edit(0, 3, "")
	x.rows(false, "b |1", "cd\n!2", "efg\n!3")
	x.edit(8, 1, "")
	x.rows(false, "b |1", "cd\n!2", "efg!3")
	x.edit(0, 8, "now this")
	x.rows(false, "now |3", "thi/3", "s!1")
	x.edit(0, 8, "")
	x.rows(false, "!0")
	x.edit(0, 0, "")
	x.rows(false, "!0")
	x.edit(0, 0, "\n")
	x.rows(false, "\n!0")
	x.edit(1, 0, "abcd")
	x.rows(false, "\n!0", "abc/3", "d!1")
}

// P21.2: a change that puts there what went changes nothing.
func TestLikeChanges(t *testing.T) {
	x := start(t, made(t, rich()), best(5, 2), "ab hyphen\nc table\r\n\u65e5")
	for at := range len(x.text) + 1 {
		for _, del := range []int{0, 1, 4} {
			if at+del <= len(x.text) {
				x.edit(at, del, x.text[at:at+del])
			}
		}
	}
}

// P21.2: all short texts, each with every change that may be, in both modes.
func TestAllShort(t *testing.T) {
	for _, d := range []api.Data{simple(), far()} {
		b := made(t, d)
		for _, text := range words(3, "a \nk") {
			for at := range len(text) + 1 {
				for del := range len(text) - at + 1 {
					for _, ins := range words(2, "b# \n") {
						x := start(t, b, way(1+len(text)%3), text)
						x.edit(at, del, ins)
						x.turn(best(2, looses[(at+del)%len(looses)]))
						x.edit(at, len(ins), text[at:at+del])
					}
				}
			}
		}
	}
}

// words are all rows of up to so many of some letters.
func words(most int, letters string) []string {
	l := []string{""}
	for from := 0; len(l[from]) < most; from++ {
		for i := range len(letters) {
			l = append(l, l[from]+letters[i:i+1])
		}
	}
	return l
}
