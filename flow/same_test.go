package flow_test

import (
	"strings"
	"testing"

	"stanza/api"
	"stanza/edit"
)

// The tests of this file are rows of changes, behind each of which all answers are held against those of a new flow (P21.3, P8); where rows are told, they are what the chapters' words ask for.

// P21.3: changes that join two parts, and that split one.
func TestJoinAndSplit(t *testing.T) {
	x := start(t, made(t, simple()), way(4), "ab\ncd\nef")
	x.rows(false, "ab\n!2", "cd\n!2", "ef!2")
	x.edit(2, 1, "")
	x.rows(false, "abcd\n!4", "ef!2")
	x.edit(4, 1, "")
	x.rows(false, "abcd/4", "ef!2")
	x.edit(1, 0, "\n")
	x.rows(false, "a\n!1", "bcde/4", "f!1")
	x.edit(5, 0, "\n")
	x.rows(false, "a\n!1", "bcd\n!3", "ef!2")
	x.edit(1, 5, " ")
	x.rows(false, "a ef!4")
	x.edit(1, 1, "\n\n\n")
	x.rows(false, "a\n!1", "\n!0", "\n!0", "ef!2")
	x.edit(1, 3, "")
	x.rows(false, "aef!3")
}

// P21.3: parts with the same bytes: each of them is changed in turn, while the others stay.
func TestLikeParts(t *testing.T) {
	const part = "ab cd e\n"
	for _, c := range []api.Config{way(4), best(5, 3)} {
		for i := range 5 {
			x := start(t, made(t, simple()), c, strings.Repeat(part, 6))
			x.edit(i*len(part)+3, 0, "x")
			x.edit(i*len(part)+2, 1, "")
			x.edit(i*len(part)+2, 1, " ")
			x.edit(i*len(part), 8, part)
			x.edit(i*len(part), 8, "")
			x.edit(0, 0, part)
			x.edit(i*len(part), 2*len(part), part)
			x.edit(i*len(part), 0, part+part)
		}
	}
	x := start(t, made(t, simple()), way(3), "ab c\nab c\nab c")
	x.edit(5, 0, "x")
	x.rows(false, "ab |2", "c\n!1", "xab |3", "c\n!1", "ab |2", "c!1")
}

// P21.3: bytes that are alike and look otherwise: the last part ends by no sign; a word ends there, or goes on.
func TestLikeBytes(t *testing.T) {
	x := start(t, made(t, far()), way(2), "abkabkc\nabk\nabkc")
	x.rows(false, "ab/2", "k!1", "a-2", "bk!2", "c\n!1", "ab/2", "k!1", "\n!0", "a-2", "bk!2", "c!1")
	x.edit(8, 4, "")
	x.rows(false, "ab/2", "k!1", "a-2", "bk!2", "c\n!1", "a-2", "bk!2", "c!1")
	x.edit(6, 1, "")
	x.rows(false, "ab/2", "k!1", "ab/2", "k!1", "\n!0", "a-2", "bk!2", "c!1")
	x.edit(3, 0, "ck")
	x.rows(false, "a-2", "bk!2", "ck!2", "ab/2", "k!1", "\n!0", "a-2", "bk!2", "c!1")
}

// P21.3: what is done at a boundary leans on what stands ahead of it, over parts that didn't change.
func TestLeansBack(t *testing.T) {
	x := start(t, made(t, far()), way(5), "ab cd\nab cd")
	x.rows(false, "ab cd\n!5", "ab cd!5")
	x.edit(0, 0, "#")
	x.rows(false, "#ab !3", "cd\n!2", "ab !2", "cd!2")
	x.edit(7, 0, "ab cd\n")
	x.rows(false, "#ab !3", "cd\n!2", "ab !2", "cd\n!2", "ab !2", "cd!2")
	x.edit(0, 1, "")
	x.rows(false, "ab cd\n!5", "ab cd\n!5", "ab cd!5")
	x.edit(6, 0, "#")
	x.rows(false, "ab cd\n!5", "#ab !3", "cd\n!2", "ab !2", "cd!2")
	x.turn(way(2))
	x.rows(false, "ab |2", "cd\n!2", "#a/2", "b !1", "cd\n!2", "ab !2", "cd!2")
	x.edit(6, 1, "")
	x.rows(false, "ab |2", "cd\n!2", "ab |2", "cd\n!2", "ab |2", "cd!2")
}

// P21.3: what is done at a boundary leans on what stands behind it, over parts that didn't change.
func TestLeansAhead(t *testing.T) {
	x := start(t, made(t, far()), way(2), "abc de\nabc")
	x.rows(false, "ab/2", "c |1", "de\n!2", "ab/2", "c!1")
	x.edit(10, 0, "!")
	x.rows(false, "ab|2", "c |1", "de\n!2", "ab|2", "c!!2")
	x.edit(7, 0, "?")
	x.rows(false, "ab/2", "c |1", "de\n!2", "?a|2", "b|1", "c!!2")
	x.edit(3, 0, "!")
	x.rows(false, "ab|2", "c! |2", "de\n!2", "?a|2", "b|1", "c!!2")
	x.edit(8, 1, "")
	x.rows(false, "ab|2", "c! |2", "de\n!2", "ab|2", "c!!2")
	x.edit(11, 1, "")
	x.rows(false, "ab|2", "c! |2", "de\n!2", "ab/2", "c!1")
}

// P21.3: signs that stay together over the ends of lines, as long as something far ahead says so.
func TestMarksLean(t *testing.T) {
	x := start(t, made(t, far()), way(3), "ab c\nd>e f\ng")
	x.rows(false, "ab |2", "c\n!1", "d>e |3", "f\n!1", "g!1")
	x.edit(1, 0, "<")
	x.rows(false, "a<b c\nd>e |3", "f\n!1", "g!1")
	x.edit(7, 1, "")
	x.rows(false, "a<b c\nde f\ng!2")
	x.edit(7, 0, ">")
	x.rows(false, "a<b c\nd>e |3", "f\n!1", "g!1")
	x.edit(13, 0, "<\n>\n")
	x.rows(false, "a<b c\nd>e |3", "f\n!1", "g<\n>\n!2")
	x.edit(1, 1, "")
	x.rows(false, "ab |2", "c\n!1", "d>e |3", "f\n!1", "g<\n>\n!2")
}

// P21.3: a word that grows may be cut elsewhere; so it may behind a line's end.
func TestWordsGrow(t *testing.T) {
	x := start(t, made(t, rich()), way(5), "a ta\nta b")
	x.rows(false, "a ta\n!4", "ta b!4")
	x.edit(4, 0, "ble")
	x.rows(false, "a ta-5", "ble\n!3", "ta b!4")
	x.edit(7, 0, "s")
	x.rows(false, "a |1", "table/5", "s\n!1", "ta b!4")
	x.edit(7, 1, "-")
	x.rows(false, "a ta-5", "ble-\n!4", "ta b!4")
	x.edit(2, 2, "")
	x.rows(false, "a |1", "ble-\n!4", "ta b!4")
	x = start(t, made(t, far()), way(2), "abkd\nabkd")
	x.rows(false, "ab/2", "k!1", "d\n!1", "ab/2", "k!1", "d!1")
	x.edit(3, 1, "c")
	x.rows(false, "a-2", "bk!2", "c\n!1", "ab/2", "k!1", "d!1")
	x.edit(4, 1, "k")
	x.rows(false, "a-2", "bk!2", "ck!2", "ab/2", "k!1", "d!1")
	x.edit(8, 0, "c")
	x.rows(false, "a-2", "bk!2", "ck!2", "a-2", "bk!2", "cd!2")
}

// P21.3: signs that stay together across the place that is changed.
func TestAcross(t *testing.T) {
	x := start(t, made(t, rich()), way(4), "a\r\nb")
	x.rows(false, "a\r\n!1", "b!1")
	x.edit(2, 0, "x")
	x.rows(false, "a\r!1", "x\n!1", "b!1")
	x.edit(2, 1, "")
	x.rows(false, "a\r\n!1", "b!1")
	x.edit(3, 0, "\u0301")
	x.rows(false, "a\r\n!1", "\u0301b!1")
	isSpot(x, 5, false, 1, 0)
	x.edit(1, 2, "")
	x.rows(false, "a\u0301b!2")
	isSpot(x, 2, false, 0, 0)
	x.edit(0, 1, "")
	x.rows(false, "\u0301b!1")
	x.edit(0, 0, "\u65e5c")
	x.rows(false, "\u65e5c\u0301b!4")
	x.edit(3, 1, "")
	x.rows(false, "\u65e5\u0301b!3")
	x.turn(way(2))
	x.rows(false, "\u65e5\u0301|2", "b!1")
}

// P21.3: bytes that become a sign, and a sign of which bytes go.
func TestBytesOfSigns(t *testing.T) {
	x := start(t, made(t, rich()), way(1), "a\xc3")
	x.rows(false, "a/1", "\xc3!1")
	x.edit(2, 0, "\xa9")
	x.rows(false, "a/1", "\u00e9!1")
	x.edit(2, 0, "b")
	x.rows(false, "a/1", "\xc3/1", "b/1", "\xa9!1")
	x.edit(1, 3, "\xe6\x97")
	x.rows(false, "a/1", "\xe6\x97!1")
	x.edit(3, 0, "\xa5b")
	x.rows(false, "a|1", "\u65e5|2", "b!1")
	x.edit(1, 1, "")
	x.rows(false, "a/1", "\x97/1", "\xa5/1", "b!1")
	x.edit(1, 0, "\xcc")
	x.rows(false, "a\u0317/1", "\xa5/1", "b!1")
}

// P21.3: a change, and what takes it back, at each place of a text.
func TestTakenBack(t *testing.T) {
	for _, d := range []api.Data{rich(), far()} {
		x := start(t, made(t, d), way(4), "ab cd\r\nabkab ta\u0301\nta")
		for at := range len(x.text) + 1 {
			for _, ins := range []string{"\n", "#", "!", "<", "x", "\u0301", " ", "ble", ""} {
				for _, del := range []int{0, 1, 5} {
					if del > len(x.text)-at {
						continue
					}
					back, e := edit.Undo([]byte(x.text), put(at, del, ins))
					if e != api.OK {
						t.Fatal("P19.1: ", e)
					}
					had, layout := x.text, x.flow.Layout()
					x.edit(at, del, ins)
					x.edit(back.At, back.Del, string(back.Ins))
					if x.text != had || !same(layout, x.flow.Layout()) {
						t.Fatalf("P21.3: %q: %v, want %q, %v", x.text, x.flow.Layout(), had, layout)
					}
				}
			}
		}
	}
}

// P21.3: one of several parts can't be broken in mode Best: that is told as long as it is there.
func TestLooseParts(t *testing.T) {
	x := start(t, made(t, simple()), best(4, 9), "ab cd\nabcdef\nab c")
	x.rows(true, "ab |2", "cd\n!2", "abcd/4", "ef\n!2", "ab c!4")
	x.edit(0, 1, "")
	x.rows(true, "b cd\n!4", "abcd/4", "ef\n!2", "ab c!4")
	x.edit(8, 1, "")
	x.rows(true, "b cd\n!4", "abce/4", "f\n!1", "ab c!4")
	x.edit(9, 1, "")
	x.rows(false, "b cd\n!4", "abce\n!4", "ab c!4")
	x.edit(0, 0, "abcde\n")
	x.rows(true, "abcd/4", "e\n!1", "b cd\n!4", "abce\n!4", "ab c!4")
	x.edit(16, 0, "abcde\n")
	x.rows(true, "abcd/4", "e\n!1", "b cd\n!4", "abce\n!4", "abcd/4", "e\n!1", "ab c!4")
	x.edit(0, 6, "")
	x.rows(true, "b cd\n!4", "abce\n!4", "abcd/4", "e\n!1", "ab c!4")
	x.turn(best(5, 9))
	x.rows(false, "b cd\n!4", "abce\n!4", "abcde\n!5", "ab c!4")
	x.turn(best(4, 9))
	x.rows(true, "b cd\n!4", "abce\n!4", "abcd/4", "e\n!1", "ab c!4")
	x.turn(way(4))
	x.rows(false, "b cd\n!4", "abce\n!4", "abcd/4", "e\n!1", "ab c!4")
}
