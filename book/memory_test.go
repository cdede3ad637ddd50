package book_test

import (
	"math"
	"slices"
	"testing"

	"stanza/api"
	"stanza/book"
)

const memoryText = "Hyphen a\u0301 table\r\n\u65e5\u672c \xff.\n"

func memoryWay() api.Config {
	return api.Config{Width: 5, Tab: 4, Mode: api.Best, Hyphen: 7, Pair: 9, Loose: math.Inf(1)}
}

func memoryRows() []string {
	return []string{"Hy-3", "phen |4", "a\u0301 ta-5", "ble\r\n!3", "\u65e5|2", "\u672c \xff.\n!5"}
}

const memoryClusters = "Na\u0301 t\u00e9x\r\n"

func memoryShown() []string {
	return []string{`"N"p1.`, `"a\u0301"p1.`, `" "s1|`, `"t"p1.`, `"\u00e9"p1.`, `"x"p1.`, `"\r\n"p0!`}
}

// memoryHolds asks a book of rich all that it may be asked.
func memoryHolds(t *testing.T, b *book.Book) {
	t.Helper()
	c := memoryWay()
	lays(t, b, memoryText, c, false, memoryRows()...)
	c.Width = 3
	lays(t, b, memoryText, c, true, "Hy-3", "phe/3", "n a\u0301 |3", "ta-3", "ble\r\n!3", "\u65e5|2", "\u672c |2", "\xff.\n!2")
	shows(t, b, memoryClusters, memoryShown()...)
	shows(t, b, "")
	layError(t, b, make([]byte, api.MaxText+1), c, api.ErrText)
	layError(t, b, nil, api.Config{}, api.ErrConfig)
	if p, e := b.Para(make([]byte, api.MaxText+1)); e != api.ErrText || p.Clusters != nil || p.Opps != nil {
		t.Errorf("R3: %v, error %d", p, e)
	}
}

// spoil puts a thing at all places of a list, its spare room included.
func spoil[T any](l []T, with T) {
	l = l[:cap(l)]
	for i := range l {
		l[i] = with
	}
}

// lists are those of data.
func lists(d *api.Data) []*[]api.Range {
	return []*[]api.Range{&d.Marks, &d.Breaks, &d.Cells, &d.Letters}
}

// R6: data that is handed in isn't changed, spare room included; nor is that room read.
func TestDataStays(t *testing.T) {
	d, had := rich(), rich()
	more := api.Range{Lo: 3, Hi: 2, To: -1}
	for _, l := range lists(&d) {
		*l = append(slices.Grow(slices.Clone(*l), 3), more, more)[:len(*l)]
	}
	memoryHolds(t, made(t, d))
	for i, l := range lists(&d) {
		n := len(*l)
		if want := *lists(&had)[i]; !slices.Equal(*l, want) || (*l)[:n+2][n] != more || (*l)[:n+2][n+1] != more {
			t.Errorf("R6: the list %d became %v", i, (*l)[:n+2])
		}
	}
	if d.MarkRules != had.MarkRules || d.BreakRules != had.BreakRules || d.Patterns != had.Patterns {
		t.Error("R6: the texts became others")
	}
}

// R6: nothing of data is kept: a book is what it was, whatever becomes of the lists.
func TestDataIsNotKept(t *testing.T) {
	d := rich()
	b := made(t, d)
	for _, l := range lists(&d) {
		spoil(*l, api.Range{Lo: 0, Hi: 0x10ffff, To: 1})
	}
	memoryHolds(t, b)
	memoryHolds(t, made(t, rich()))
}

// R6: texts that are handed in aren't changed, spare room included; nor is that room read.
func TestTextStays(t *testing.T) {
	b := made(t, rich())
	// The room behind it begins with what would stay with the last sign.
	const room = "\u0301\x81\n\xff"
	whole := []byte(memoryText + room)
	text := whole[:len(memoryText)]
	l, e := b.Lay(text, memoryWay())
	if got := told(memoryText, l.Rows); e != api.OK || !slices.Equal(got, memoryRows()) {
		t.Errorf("R6: Lay: %q, error %d", got, e)
	}
	p, e := b.Para(text)
	if other, _ := b.Para([]byte(memoryText)); e != api.OK || !equal(p, other) {
		t.Errorf("R6: Para: %v, error %d", p, e)
	}
	if string(whole) != memoryText+room {
		t.Errorf("R6: the text became %q", whole)
	}
	cut := []byte("a\xe6\x97\xa5")[:3]
	if p, _ := b.Para(cut); shown("a\xe6\x97", p) != `"a"p1. "\xe6\x97"p1!` {
		t.Errorf("R6: Para of a part: %v", p)
	}
	if p, e := b.Para(make([]byte, 2, api.MaxText+9)); e != api.OK || len(p.Clusters) != 2 {
		t.Errorf("R6: of two bytes with much room: error %d", e)
	}
}

// R6: nothing of a text is kept: answers are what they were, whatever becomes of the text.
func TestTextIsNotKept(t *testing.T) {
	b := made(t, rich())
	text := []byte(memoryText)
	l, _ := b.Lay(text, memoryWay())
	spoil(text, '\n')
	if got := told(memoryText, l.Rows); !slices.Equal(got, memoryRows()) {
		t.Errorf("R6: rows behind a change of the text: %q", got)
	}
	text = []byte(memoryClusters)
	p, _ := b.Para(text)
	spoil(text, '\n')
	if got, want := shown(memoryClusters, p), memoryShown(); got != joined(want) {
		t.Errorf("R6: clusters behind a change of the text: %s", got)
	}
	memoryHolds(t, b)
}

// R6: answers are new memory: they may be changed without changing others, or what is asked for later.
func TestAnswersAreNew(t *testing.T) {
	b := made(t, rich())
	for range 3 {
		one, _ := b.Lay([]byte(memoryText), memoryWay())
		other, _ := b.Lay([]byte(memoryText), memoryWay())
		p, _ := b.Para([]byte(memoryClusters))
		q, _ := b.Para([]byte(memoryClusters))
		none, _ := b.Lay(nil, memoryWay())
		nothing, _ := b.Para(nil)
		spoil(one.Rows, api.Row{From: -1, To: -1, Cells: -1, End: 99})
		spoil(none.Rows, api.Row{From: -1, To: -1, Cells: -1, End: 99})
		spoil(p.Clusters, api.Cluster{At: -1, Len: -1, Cells: -1, Kind: 99})
		spoil(p.Opps, 99)
		spoil(nothing.Opps, 99)
		if got := told(memoryText, other.Rows); !slices.Equal(got, memoryRows()) {
			t.Errorf("R6: rows spoilt with others: %q", got)
		}
		if got := shown(memoryClusters, q); got != joined(memoryShown()) {
			t.Errorf("R6: clusters spoilt with others: %s", got)
		}
		memoryHolds(t, b)
	}
}

// R8: a book is asked again, alike and otherwise between, beside other books.
func TestAsksStandApart(t *testing.T) {
	b, other := made(t, rich()), made(t, simple())
	for range 3 {
		memoryHolds(t, b)
		lays(t, other, "ab cd\ne", way(3), false, "ab |2", "cd\n!2", "e!1")
		lays(t, other, memoryText[:8], way(5), false, "Hyphe/5", "n a!3")
		lays(t, b, "ab cd\ne", way(3), false, "ab |2", "cd\n!2", "e!1")
		if _, f := book.New(api.Data{}); f != at(api.ErrName, 0) {
			t.Errorf("R8: fault %v", f)
		}
	}
	memoryHolds(t, made(t, rich()))
}

// R5: lists that are empty and lists that are nil are the same.
func TestNilAndEmpty(t *testing.T) {
	d := simple()
	d.Marks, d.Letters = nil, nil
	b := made(t, d)
	d.Marks, d.Letters = []api.Range{}, []api.Range{}
	other := made(t, d)
	for _, b := range []*book.Book{b, other} {
		lays(t, b, "ab cd\ne", way(3), false, "ab |2", "cd\n!2", "e!1")
	}
	d.Breaks, d.Cells = nil, nil
	b = made(t, d)
	d.Breaks, d.Cells = []api.Range{}, []api.Range{}
	other = made(t, d)
	for _, b := range []*book.Book{b, other} {
		lays(t, b, "ab cd", way(3), false, "ab cd!0")
		for _, text := range [][]byte{nil, {}, make([]byte, 0, 9)} {
			p, e := b.Para(text)
			l, err := b.Lay(text, way(3))
			if e != api.OK || err != api.OK || !equal(p, api.Para{Opps: []api.Opp{api.Must}}) || !slices.Equal(l.Rows, []api.Row{{End: api.Must}}) || l.Loose {
				t.Errorf("R5: %v, %v", p, l)
			}
		}
	}
}
