package book_test

import (
	"strings"
	"testing"

	"stanza/api"
	"stanza/book"
)

// change makes something of data wrong, or another thing right.
type change func(d *api.Data)

// fault holds New's fault of the chapter's data with changes.
func fault(t *testing.T, what string, want api.Fault, changes ...change) {
	t.Helper()
	d := simple()
	for _, c := range changes {
		c(&d)
	}
	b, f := book.New(d)
	if f != want {
		t.Errorf("P20.1: %s: fault %v, want %v", what, f, want)
	}
	if (b == nil) != (want.Code != api.OK) {
		t.Errorf("P20.1, R3: %s: book %v beside %v", what, b != nil, f)
	}
}

func marks(text string) change            { return func(d *api.Data) { d.MarkRules = text } }
func breaks(text string) change           { return func(d *api.Data) { d.BreakRules = text } }
func marksOf(l ...api.Range) change       { return func(d *api.Data) { d.Marks = l } }
func breaksOf(l ...api.Range) change      { return func(d *api.Data) { d.Breaks = l } }
func cellsOf(l ...api.Range) change       { return func(d *api.Data) { d.Cells = l } }
func lettersOf(l ...api.Range) change     { return func(d *api.Data) { d.Letters = l } }
func patterns(text string) change         { return func(d *api.Data) { d.Patterns = text } }
func distances(left, right int) change    { return func(d *api.Data) { d.Left, d.Right = left, right } }
func at(code api.Errno, at int) api.Fault { return api.Fault{Code: code, At: at} }

// P20.1: of no data the marks' rules have no classes.
func TestZeroData(t *testing.T) {
	if b, f := book.New(api.Data{}); b != nil || f != at(api.ErrName, 0) {
		t.Errorf("P20.1: %v, fault %v", b != nil, f)
	}
}

// manyStates says what stands nine things behind a class: too many states for an automaton, ahead of the boundary as behind it.
const manyStates = "class O S N; keep O . . . . . . . . . / .;"
const manyStatesBehind = "class O S N; keep . / . . . . . . . . . O;"

// P20.1, P6.1: each rules' text is read as seg reads it, with the fault where it is.
func TestFaultsOfRules(t *testing.T) {
	for _, told := range []struct {
		text string
		want api.Fault
	}{
		{"", at(api.ErrName, 0)},
		{"# only a remark", at(api.ErrName, 0)},
		{"keep / ;", at(api.ErrName, 0)},
		{"class A", at(api.ErrParse, 7)},
		{"class O S N; keep O / P;", at(api.ErrName, 22)},
		{"class O S N; keep O $ P;", at(api.ErrToken, 20)},
		{"class O S N O;", at(api.ErrTwice, 12)},
		{"class O S N; cut O / O;", at(api.ErrParse, 13)},
		{"class O S N;" + strings.Repeat(" ", 4085), at(api.ErrMany, 4096)},
		{"class O S N; keep O / " + strings.Repeat("(", 17), at(api.ErrDeep, 38)},
		{manyStates, at(api.ErrStates, 0)},
		{manyStatesBehind, at(api.ErrStates, 0)},
		{"class O S N;" + strings.Repeat(" ", 4084), at(api.OK, 0)},
		{"class O S N; keep O . . . . . / . . . . . O;", at(api.OK, 0)},
	} {
		fault(t, "the marks' rules "+told.text, told.want, marks(told.text))
		fault(t, "the breaks' rules "+told.text, told.want, breaks(told.text))
	}
}

func many(n int, to int) []api.Range {
	l := make([]api.Range, n)
	for i := range l {
		l[i] = api.Range{Lo: int32(2 * i), Hi: int32(2*i + 1), To: to}
	}
	return l
}

// P20.1, P2.1, P9.1: ranges that are none are refused in each table, at 0.
func TestFaultsOfRanges(t *testing.T) {
	wrong := at(api.ErrTable, 0)
	for _, of := range []func(l ...api.Range) change{marksOf, breaksOf, cellsOf, lettersOf} {
		fault(t, "256 ranges", at(api.OK, 0), of(many(256, 0)...))
		fault(t, "257 ranges", wrong, of(many(257, 0)...))
		fault(t, "no ranges", at(api.OK, 0), of())
		fault(t, "all signs", at(api.OK, 0), of(api.Range{Hi: 0x10ffff}))
		fault(t, "Hi above all signs", wrong, of(api.Range{Hi: 0x110000}))
		fault(t, "Lo below 0", wrong, of(api.Range{Lo: -1, Hi: 5}))
		fault(t, "Hi below Lo", wrong, of(api.Range{Lo: 6, Hi: 5}))
		fault(t, "two with one sign", wrong, of(api.Range{Lo: 6, Hi: 7}, api.Range{Lo: 7, Hi: 8}))
		fault(t, "two that fall", wrong, of(api.Range{Lo: 8, Hi: 9}, api.Range{Lo: 6, Hi: 7}))
		fault(t, "To below 0", wrong, of(api.Range{Lo: 6, Hi: 7, To: -1}))
		fault(t, "To above all", wrong, of(api.Range{Lo: 6, Hi: 7, To: 0x10ffff}))
	}
	fault(t, "a letter that leads to the last sign", at(api.OK, 0), lettersOf(api.Range{Lo: 6, Hi: 6, To: 0x10ffff}))
}

// P20.1: a table names classes that its own rules have.
func TestClassesThatRulesHave(t *testing.T) {
	const one, three = "class A;", "class A B C;"
	to := func(n int) api.Range { return api.Range{Lo: 5, Hi: 5, To: n} }
	wrong, right := at(api.ErrTable, 0), at(api.OK, 0)
	fault(t, "the only class of the marks", right, marks(one), breaks(three), marksOf(to(0)), breaksOf(to(0)))
	fault(t, "a class that only the breaks have", wrong, marks(one), breaks(three), marksOf(to(1)), breaksOf(to(0)))
	fault(t, "the last class of the breaks", right, marks(one), breaks(three), marksOf(to(0)), breaksOf(to(2)))
	fault(t, "one behind the last class of the breaks", wrong, marks(one), breaks(three), marksOf(to(0)), breaksOf(to(3)))
	fault(t, "the last class of the marks", right, marks(three), breaks(one), marksOf(to(2)), breaksOf(to(0)))
	fault(t, "one behind the last class of the marks", wrong, marks(three), breaks(one), marksOf(to(3)), breaksOf(to(0)))
	fault(t, "a class that only the marks have", wrong, marks(three), breaks(one), marksOf(to(2)), breaksOf(to(1)))
	all := "class c0 c1 c2 c3 c4 c5 c6 c7 c8 c9 c10 c11 c12 c13 c14 c15 c16 c17 c18 c19 c20 c21 c22 c23;"
	fault(t, "the last of 24 classes", right, marks(all), breaks(all), marksOf(to(23)), breaksOf(to(23)))
	fault(t, "one behind 24 classes of the marks", wrong, marks(all), breaks(all), marksOf(to(24)), breaksOf(to(23)))
	fault(t, "one behind 24 classes of the breaks", wrong, marks(all), breaks(all), marksOf(to(23)), breaksOf(to(24)))
}

// P20.1: signs have 0, 1 or 2 cells, however many classes there are.
func TestCells(t *testing.T) {
	for to, code := range []api.Errno{api.OK, api.OK, api.OK, api.ErrTable, api.ErrTable} {
		r := api.Range{Lo: 5, Hi: 5, To: to}
		fault(t, "cells", at(code, 0), cellsOf(r), breaks("class A B C D E;"))
		fault(t, "cells beside one class", at(code, 0), cellsOf(r), breaks("class A;"), breaksOf())
	}
}

// P20.1, P9.1: what hyphens are made of, with the fault's place in the patterns.
func TestFaultsOfHyphens(t *testing.T) {
	for n, code := range map[int]api.Errno{-1: api.ErrConfig, 0: api.ErrConfig, 1: api.OK, 24: api.OK, 25: api.ErrConfig} {
		fault(t, "Left", at(code, 0), distances(n, 1))
		fault(t, "Right", at(code, 0), distances(1, n))
	}
	fault(t, "Left that Right has as room", at(api.OK, 0), distances(24, 24))
	fault(t, "a pattern that is none", at(api.ErrPattern, 3), patterns("a1 a12b"))
	fault(t, "a word that is told twice", at(api.ErrTwice, 9), patterns("a-b ab-c a-b"))
	fault(t, "patterns of 4097 bytes", at(api.ErrMany, 4096), patterns(strings.Repeat(" ", 4097)))
	fault(t, "patterns of 4096 bytes", at(api.OK, 0), patterns(strings.Repeat(" ", 4096)))
	fault(t, "256 patterns", at(api.OK, 0), patterns(strings.Repeat("a ", 256)))
	fault(t, "257 patterns", at(api.ErrMany, 512), patterns(strings.Repeat("a ", 257)))
}

// P20.1, R2: of any faults together that of the first part is told.
func TestFirstFault(t *testing.T) {
	wrong := api.Range{Lo: 2, Hi: 1}
	parts := []struct {
		spoil change
		want  api.Fault
	}{
		{marks("class O; keep / P;"), at(api.ErrName, 16)},
		{breaks("class O O;"), at(api.ErrTwice, 8)},
		{marksOf(wrong), at(api.ErrTable, 0)},
		{breaksOf(wrong), at(api.ErrTable, 0)},
		{cellsOf(wrong), at(api.ErrTable, 0)},
		{lettersOf(wrong), at(api.ErrTable, 0)},
		{distances(25, 0), at(api.ErrConfig, 0)},
		{patterns("ab a--b"), at(api.ErrPattern, 3)},
	}
	for some := range 1 << len(parts) {
		var changes []change
		var want api.Fault
		for i := len(parts) - 1; i >= 0; i-- {
			if some>>i&1 == 1 {
				changes = append(changes, parts[i].spoil)
				want = parts[i].want
			}
		}
		fault(t, "faults together", want, changes...)
	}
}

// P20.1, R2: rules of the breaks that have no classes are told ahead of a table of the marks, and a class too many of the marks ahead of patterns.
func TestFaultsOfTablesStandBetween(t *testing.T) {
	tooMany := marksOf(api.Range{Lo: 5, Hi: 5, To: 1})
	fault(t, "no classes of the breaks", at(api.ErrName, 0), tooMany, breaks(""))
	fault(t, "a class too many", at(api.ErrTable, 0), tooMany, patterns("."), distances(0, 0))
	fault(t, "three cells", at(api.ErrTable, 0), cellsOf(api.Range{To: 3}), patterns("."), distances(0, 0))
}
