package edit_test

import (
	"bytes"
	"math"
	"strings"
	"testing"

	"stanza/api"
	"stanza/edit"
)

// put is a change that takes so many bytes at a place, and brings these.
func put(at, del int, ins string) api.Edit {
	return api.Edit{At: at, Del: del, Ins: []byte(ins)}
}

// becomes holds Splice against what is wanted.
func becomes(t *testing.T, b string, e api.Edit, want string) {
	t.Helper()
	if got, code := edit.Splice([]byte(b), e); code != api.OK || string(got) != want {
		t.Errorf("P19.1: Splice(%.20q): At %d, Del %d, Ins %.20q: %.20q, %d, want %.20q", b, e.At, e.Del, e.Ins, got, code, want)
	}
}

// refused holds Splice and Undo: the same error as Check's, and nothing beside it.
func refused(t *testing.T, b string, e api.Edit, want api.Errno) {
	t.Helper()
	checks(t, len(b), e, want)
	if got, code := edit.Splice([]byte(b), e); code != want || len(got) != 0 {
		t.Errorf("P19.1, R3: Splice(%.20q): At %d, Del %d, %d bytes: %.20q, %d, want %d", b, e.At, e.Del, len(e.Ins), got, code, want)
	}
	if got, code := edit.Undo([]byte(b), e); code != want || got.At != 0 || got.Del != 0 || len(got.Ins) != 0 {
		t.Errorf("P19.1, R3: Undo(%.20q): At %d, Del %d, %d bytes: %v, %d, want %d", b, e.At, e.Del, len(e.Ins), got, code, want)
	}
}

// The chapter's example.
func TestSpliceExample(t *testing.T) {
	becomes(t, "abcd", put(1, 2, "x"), "axd")
}

// P19.1: at the beginning, in the middle, at the end, all of the text, nothing at all.
func TestSplice(t *testing.T) {
	for _, told := range []struct {
		at, del   int
		ins, want string
	}{
		{0, 0, "", "abcd"}, {2, 0, "", "abcd"}, {4, 0, "", "abcd"},
		{0, 0, "xy", "xyabcd"}, {2, 0, "xy", "abxycd"}, {4, 0, "xy", "abcdxy"},
		{0, 1, "", "bcd"}, {1, 2, "", "ad"}, {3, 1, "", "abc"}, {2, 2, "", "ab"}, {0, 4, "", ""},
		{0, 1, "xyz", "xyzbcd"}, {1, 2, "xyz", "axyzd"}, {3, 1, "xyz", "abcxyz"}, {0, 4, "xyz", "xyz"},
		{0, 2, "xy", "xycd"}, {1, 2, "xy", "axyd"}, {2, 2, "xy", "abxy"}, {0, 4, "wxyz", "wxyz"},
		{0, 3, "x", "xd"}, {1, 3, "x", "ax"}, {0, 4, "x", "x"},
	} {
		becomes(t, "abcd", put(told.at, told.del, told.ins), told.want)
	}
	becomes(t, "", put(0, 0, ""), "")
	becomes(t, "", put(0, 0, "xy"), "xy")
}

// P19.1: bytes are bytes, whatever signs they are of.
func TestSpliceAnyBytes(t *testing.T) {
	becomes(t, "é一\x00", put(1, 1, "\xff"), "\xc3\xff一\x00")
	becomes(t, "a\xf0\x9f", put(3, 0, "\x98\x80"), "a😀")
	becomes(t, "\r\n\t", put(1, 1, "\x00\x80"), "\r\x00\x80\t")
}

// P19.1: what Check refuses.
func TestRefused(t *testing.T) {
	for _, e := range []api.Edit{
		put(-1, 0, ""), put(-1, 1, "x"), put(0, -1, ""), put(2, -1, "x"), put(5, 0, "x"), put(0, 5, ""), put(3, 2, "x"), put(4, 1, ""),
		put(math.MinInt, 0, ""), put(0, math.MinInt, ""), put(math.MaxInt, 0, ""), put(0, math.MaxInt, "x"),
		put(math.MaxInt, math.MaxInt, ""), put(math.MinInt, math.MinInt, ""), put(1, math.MaxInt, "x"), put(math.MaxInt, 1, "x"), put(math.MinInt, math.MaxInt, ""),
		change(-1, 0, mostBytes+1), change(4, 1, mostBytes+1),
	} {
		refused(t, "abcd", e, api.ErrEdit)
	}
	for _, e := range []api.Edit{change(0, 0, mostBytes-3), change(2, 1, mostBytes-2), change(0, 4, mostBytes+1), change(4, 0, mostBytes)} {
		refused(t, "abcd", e, api.ErrText)
	}
	refused(t, "", put(0, 1, ""), api.ErrEdit)
	refused(t, "", put(1, 0, ""), api.ErrEdit)
	refused(t, "", change(0, 0, mostBytes+1), api.ErrText)
}

// longText is so many bytes, of which none is like one that stands near.
func longText(n int) string {
	b := make([]byte, n)
	for i := range b {
		b[i] = byte(i*7 + i/256)
	}
	return string(b)
}

// P19.1: texts that become just 4096 bytes, and one more.
func TestSpliceLongest(t *testing.T) {
	long := longText(mostBytes)
	becomes(t, "", put(0, 0, long), long)
	becomes(t, long, put(mostBytes, 0, ""), long)
	becomes(t, long, put(0, mostBytes, ""), "")
	becomes(t, long, put(0, mostBytes, strings.Repeat("x", mostBytes)), strings.Repeat("x", mostBytes))
	becomes(t, long, put(100, 2, "xy"), long[:100]+"xy"+long[102:])
	becomes(t, long[:4000], put(1234, 0, long[:96]), long[:1234]+long[:96]+long[1234:4000])
	refused(t, long, put(mostBytes, 0, "x"), api.ErrText)
	refused(t, long, put(0, 0, "x"), api.ErrText)
	refused(t, long, put(100, 2, "xyz"), api.ErrText)
	refused(t, long[:4000], put(1234, 0, long[:97]), api.ErrText)
	refused(t, long, put(0, mostBytes+1, ""), api.ErrEdit)
}

// P19.1: a text that is longer than 4096 bytes already may be made shorter, not left or made longer.
func TestSpliceTooLongAlready(t *testing.T) {
	long := longText(2 * mostBytes)
	becomes(t, long, put(0, mostBytes, ""), long[mostBytes:])
	becomes(t, long, put(mostBytes, mostBytes, ""), long[:mostBytes])
	becomes(t, long, put(5, mostBytes+3, "xyz"), long[:5]+"xyz"+long[mostBytes+8:])
	becomes(t, long, put(0, 2*mostBytes, ""), "")
	becomes(t, long[:mostBytes+1], put(77, 1, ""), long[:77]+long[78:mostBytes+1])
	refused(t, long, put(0, mostBytes-1, ""), api.ErrText)
	refused(t, long, put(5, mostBytes+2, "xyz"), api.ErrText)
	refused(t, long, put(0, 0, ""), api.ErrText)
	refused(t, long[:mostBytes+1], put(77, 1, "x"), api.ErrText)
	refused(t, long[:mostBytes+1], put(0, 0, ""), api.ErrText)
}

// R5: no bytes may be nil or an empty list, as the text and as what comes.
func TestSpliceNilAndEmpty(t *testing.T) {
	room := []byte("xyz")
	for _, none := range [][]byte{nil, {}, room[:0]} {
		for _, ins := range [][]byte{nil, {}, room[1:1]} {
			if got, code := edit.Splice(none, api.Edit{Ins: ins}); code != api.OK || len(got) != 0 {
				t.Errorf("R5: %q, %d", got, code)
			}
			if got, code := edit.Undo(none, api.Edit{Ins: ins}); code != api.OK || got.At != 0 || got.Del != 0 || len(got.Ins) != 0 {
				t.Errorf("R5: %v, %d", got, code)
			}
			if got, code := edit.Splice([]byte("abcd"), api.Edit{At: 1, Del: 2, Ins: ins}); code != api.OK || string(got) != "ad" {
				t.Errorf("R5: %q, %d", got, code)
			}
		}
		if got, code := edit.Splice(none, put(0, 0, "x")); code != api.OK || !bytes.Equal(got, []byte("x")) {
			t.Errorf("R5: %q, %d", got, code)
		}
		if got, code := edit.Splice(none, put(0, 1, "x")); code != api.ErrEdit || len(got) != 0 {
			t.Errorf("R5: %q, %d", got, code)
		}
	}
}

// What README.md tells.
func TestReadme(t *testing.T) {
	text, e := []byte("abcd"), put(1, 2, "x")
	after, code := edit.Splice(text, e)
	back, other := edit.Undo(text, e)
	if code != api.OK || other != api.OK || string(after) != "axd" || !same(back, put(1, 1, "bc")) || string(text) != "abcd" {
		t.Errorf("P19.1: %q, %d, %v, %d, %q", after, code, back, other, text)
	}
	becomes(t, string(after), back, "abcd")
	checks(t, 4, e, api.OK)
	checks(t, 2, e, api.ErrEdit)
	checks(t, 4096, put(0, 0, "x"), api.ErrText)
}
