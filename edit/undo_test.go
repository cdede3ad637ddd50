package edit_test

import (
	"testing"

	"stanza/api"
	"stanza/edit"
)

// takesBack holds Undo against what is wanted, and that it takes the change back.
func takesBack(t *testing.T, b string, e api.Edit, want api.Edit) {
	t.Helper()
	got, code := edit.Undo([]byte(b), e)
	if code != api.OK || !same(got, want) {
		t.Errorf("P19.1: Undo(%.20q): At %d, Del %d, Ins %.20q: %v, %d, want %v", b, e.At, e.Del, e.Ins, got, code, want)
	}
	after, code := edit.Splice([]byte(b), e)
	if code != api.OK {
		t.Fatalf("P19.1: Splice(%.20q): At %d, Del %d, Ins %.20q: %d", b, e.At, e.Del, e.Ins, code)
	}
	becomes(t, string(after), got, b)
}

func same(a, b api.Edit) bool {
	return a.At == b.At && a.Del == b.Del && string(a.Ins) == string(b.Ins)
}

// The chapter's example.
func TestUndoExample(t *testing.T) {
	takesBack(t, "abcd", put(1, 2, "x"), put(1, 1, "bc"))
}

// P19.1: at the beginning, in the middle, at the end, all of the text, nothing at all.
func TestUndo(t *testing.T) {
	for _, told := range []struct {
		at, del int
		ins     string
		undoes  int
		went    string
	}{
		{0, 0, "", 0, ""}, {2, 0, "", 0, ""}, {4, 0, "", 0, ""},
		{0, 0, "xy", 2, ""}, {2, 0, "xy", 2, ""}, {4, 0, "xy", 2, ""},
		{0, 1, "", 0, "a"}, {1, 2, "", 0, "bc"}, {3, 1, "", 0, "d"}, {2, 2, "", 0, "cd"}, {0, 4, "", 0, "abcd"},
		{0, 1, "xyz", 3, "a"}, {1, 2, "xyz", 3, "bc"}, {3, 1, "xyz", 3, "d"}, {0, 4, "xyz", 3, "abcd"},
		{0, 2, "xy", 2, "ab"}, {1, 2, "bc", 2, "bc"}, {2, 2, "xy", 2, "cd"},
	} {
		takesBack(t, "abcd", put(told.at, told.del, told.ins), put(told.at, told.undoes, told.went))
	}
	takesBack(t, "", put(0, 0, ""), put(0, 0, ""))
	takesBack(t, "", put(0, 0, "xy"), put(0, 2, ""))
	takesBack(t, "é一", put(1, 2, "\xff\x00"), put(1, 2, "\xa9\xe4"))
}

// P19.1: what takes back what takes back is the change itself.
func TestUndoOfUndo(t *testing.T) {
	for _, e := range []api.Edit{put(0, 0, ""), put(0, 0, "xy"), put(1, 2, "x"), put(1, 2, ""), put(4, 0, "xyz"), put(0, 4, "xyz"), put(0, 4, "")} {
		after, _ := edit.Splice([]byte("abcd"), e)
		back, _ := edit.Undo([]byte("abcd"), e)
		takesBack(t, string(after), back, e)
	}
}

// P19.1: changes one behind the other, taken back from the last one on.
func TestUndoOfMany(t *testing.T) {
	text := "abcd"
	texts, backs := []string{text}, []api.Edit{}
	for _, e := range []api.Edit{put(2, 0, "xyz"), put(0, 3, ""), put(4, 0, "\xff"), put(1, 2, "bc"), put(0, 5, ""), put(0, 0, "end"), put(3, 0, "")} {
		back, code := edit.Undo([]byte(text), e)
		after, other := edit.Splice([]byte(text), e)
		if code != api.OK || other != api.OK {
			t.Fatalf("P19.1: %q: At %d, Del %d, Ins %q: %d, %d", text, e.At, e.Del, e.Ins, code, other)
		}
		text = string(after)
		texts, backs = append(texts, text), append(backs, back)
	}
	if text != "end" {
		t.Errorf("P19.1: became %q: %q", text, texts)
	}
	for i := len(backs) - 1; i >= 0; i-- {
		becomes(t, texts[i+1], backs[i], texts[i])
	}
}

// P19.1: texts of 4096 bytes.
func TestUndoLongest(t *testing.T) {
	long := longText(mostBytes)
	takesBack(t, "", put(0, 0, long), put(0, mostBytes, ""))
	takesBack(t, long, put(0, mostBytes, ""), put(0, 0, long))
	takesBack(t, long, put(0, mostBytes, long), put(0, mostBytes, long))
	takesBack(t, long, put(1, mostBytes-1, "x"), put(1, 1, long[1:]))
	takesBack(t, long, put(mostBytes, 0, ""), put(mostBytes, 0, ""))
	takesBack(t, long[:4000], put(1234, 0, long[:96]), put(1234, 96, ""))
}

// P19.1: what made a text that was longer than 4096 bytes shorter is told, though Check refuses it.
func TestUndoTooLongAlready(t *testing.T) {
	long := longText(2 * mostBytes)
	for _, told := range []struct{ e, want api.Edit }{
		{put(0, mostBytes, ""), put(0, 0, long[:mostBytes])},
		{put(9, mostBytes+7, "xyz"), put(9, 3, long[9:mostBytes+16])},
		{put(0, 2*mostBytes, "x"), put(0, 1, long)},
	} {
		got, code := edit.Undo([]byte(long), told.e)
		if code != api.OK || !same(got, told.want) {
			t.Errorf("P19.1: At %d, Del %d: At %d, Del %d, %d bytes, %d", told.e.At, told.e.Del, got.At, got.Del, len(got.Ins), code)
		}
		after, _ := edit.Splice([]byte(long), told.e)
		refused(t, string(after), got, api.ErrText)
	}
}
