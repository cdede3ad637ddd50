package flow

import (
	"slices"
	"strings"
	"testing"

	"stanza/api"
	"stanza/book"
	"stanza/items"
)

// The tests of this file look into a flow: what didn't change isn't broken anew, and no more is kept than the text has.

// keptBook is chapter 20's example.
func keptBook(t *testing.T) *book.Book {
	t.Helper()
	b, f := book.New(api.Data{
		Breaks:     []api.Range{{Lo: 10, Hi: 10, To: 2}, {Lo: 32, Hi: 32, To: 1}},
		Cells:      []api.Range{{Lo: 32, Hi: 126, To: 1}},
		MarkRules:  "class O; may O / O;",
		BreakRules: "class O S N; keep S / S; may S / .; must N / .; keep . / .;",
		Left:       2, Right: 2,
	})
	if f.Code != api.OK {
		t.Fatal("P20.1: ", f)
	}
	return b
}

func keptWay() api.Config { return api.Config{Width: 3, Tab: 8} }

func keptFlow(t *testing.T, text string) *Flow {
	t.Helper()
	f, e := New(keptBook(t), keptWay(), []byte(text))
	if e != api.OK {
		t.Fatal("P21.1: error ", e)
	}
	f.holdKept(t)
	return f
}

// holdKept holds that a flow keeps each part of its text, and nothing else.
func (f *Flow) holdKept(t *testing.T) {
	t.Helper()
	seen := map[string]int{}
	from := 0
	for _, to := range items.Parts(f.para) {
		look := looks(f.para, from, to)
		seen[look]++
		if _, ok := f.parts[look]; !ok {
			t.Fatalf("P21.3: %q: the part from %d is not kept", f.text, from)
		}
		from = to
	}
	if len(f.parts) != len(seen) {
		t.Fatalf("P21.3: %q: %d parts are kept, of %d", f.text, len(f.parts), len(seen))
	}
}

// Cells of lines that a test has marked: so many has no line by itself.
const marked = 1000

// mark marks the lines of all parts that are kept.
func (f *Flow) mark() {
	for _, part := range f.parts {
		for i := range part.lines {
			part.lines[i].Cells = marked
		}
	}
}

// anew tells the first bytes of the lines that weren't marked.
func (f *Flow) anew() string {
	var l []byte
	for _, r := range f.Layout().Rows {
		if r.Cells != marked {
			l = append(l, f.text[r.From])
		}
	}
	return string(l)
}

func (f *Flow) do(t *testing.T, at, del int, ins string) {
	t.Helper()
	if e := f.Edit(api.Edit{At: at, Del: del, Ins: []byte(ins)}); e != api.OK {
		t.Fatal("P21.2: error ", e)
	}
	f.holdKept(t)
}

// Parts that a change leaves as they were aren't broken anew, wherever they stand then; those that it changes are.
func TestOnlyWhatChangedIsBroken(t *testing.T) {
	f := keptFlow(t, "ab cd\nefg\nh\nij klm no\n")
	f.mark()
	f.do(t, 7, 0, "fff")
	if got := f.anew(); got != "ef" {
		t.Errorf("P21.3: broken anew: %q", got)
	}
	f.mark()
	f.do(t, 0, 6, "")
	f.do(t, 0, 0, "")
	if got := f.anew(); got != "" {
		t.Errorf("P21.3: broken anew: %q", got)
	}
	f.do(t, 9, 2, "hh")
	if got := f.anew(); got != "" {
		t.Errorf("P21.3: broken anew, though it looks alike: %q", got)
	}
	f.do(t, 9, 1, "")
	if got := f.anew(); got != "hkn" {
		t.Errorf("P21.3: broken anew: %q", got)
	}
}

// Parts of like looks are one: a part that comes in another place is there already.
func TestLikePartsAreOne(t *testing.T) {
	f := keptFlow(t, strings.Repeat("ab cd\n", 50))
	if len(f.parts) != 1 {
		t.Errorf("P21.3: %d parts", len(f.parts))
	}
	f.mark()
	f.do(t, 60, 0, "ef gh\nij kl\n")
	if got := f.anew(); got != "" {
		t.Errorf("P21.3: broken anew: %q", got)
	}
	f.do(t, 0, 0, "mnop\n")
	if got := f.anew(); got != "mp" {
		t.Errorf("P21.3: broken anew: %q", got)
	}
}

// By another way all is broken anew; by the same one nothing is; what goes is given up.
func TestGivenUp(t *testing.T) {
	f := keptFlow(t, "ab cd\nefg\n")
	f.mark()
	if e := f.Turn(keptWay()); e != api.OK || f.anew() != "" {
		t.Errorf("P21.2: error %d, broken anew: %q", e, f.anew())
	}
	c := keptWay()
	c.Pair++
	if e := f.Turn(c); e != api.OK || f.anew() != "ace" {
		t.Errorf("P21.2: error %d, broken anew: %q", e, f.anew())
	}
	f.holdKept(t)
	f.mark()
	f.do(t, 6, 4, "")
	f.do(t, 6, 0, "efg\n")
	if got := f.anew(); got != "e" {
		t.Errorf("P21.3: broken anew: %q", got)
	}
	f.do(t, 0, 10, "")
	f.do(t, 0, 0, strings.Repeat("a b\n", 9)+"c")
}

// However many changes there are, no more is kept than the text has.
func TestKeptStaysSmall(t *testing.T) {
	f := keptFlow(t, "a b\nc\n")
	for i := range 500 {
		f.do(t, i%4, 0, strings.Repeat("x", i%9)+" \n"[i%2:i%2+1])
		if len(f.text) > 100 {
			f.do(t, 10, len(f.text)-20, "")
		}
	}
	if e := f.Turn(api.Config{}); e != api.ErrConfig {
		t.Errorf("P21.2: error %d", e)
	}
	f.holdKept(t)
}

// Lines that are kept, and those of the text, share no memory: so no part's lines change when they are moved to where it stands.
func TestKeptLinesStay(t *testing.T) {
	f := keptFlow(t, "ab cd\nab cd\nefg h\n")
	kept := map[string][]api.Line{}
	for look, part := range f.parts {
		if part.lines[0].From != 0 {
			t.Errorf("P21.3: a part is kept from %d on", part.lines[0].From)
		}
		kept[look] = slices.Clone(part.lines)
	}
	f.do(t, 0, 0, "x\n")
	f.do(t, 0, 0, "x\nab cd\n")
	for i := range f.lines {
		f.lines[i] = api.Line{From: -1}
	}
	for look, l := range kept {
		if !slices.Equal(f.parts[look].lines, l) {
			t.Errorf("P21.3: a part's lines became %v, from %v", f.parts[look].lines, l)
		}
	}
}
