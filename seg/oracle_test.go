package seg_test

import (
	"slices"
	"strconv"
	"strings"
	"testing"

	"stanza/api"
	"stanza/auto"
	"stanza/least"
	"stanza/rules"
	"stanza/seg"
)

// The tests of this file hold Run against the rules themselves: at each boundary, rule by rule, the rows of Left and Right are looked for among the things, without automata.

// reach tells the boundaries of a row, as bits, to which rows of an expression lead from some others.
func reach(e api.Expr, row []int, from uint64) uint64 {
	switch e.Op {
	case api.ESet:
		var to uint64
		for i, c := range row {
			if from>>i&1 == 1 && e.Set>>c&1 == 1 {
				to |= 1 << (i + 1)
			}
		}
		return to
	case api.ESeq:
		for _, k := range e.Kids {
			from = reach(k, row, from)
		}
		return from
	case api.EAlt:
		var to uint64
		for _, k := range e.Kids {
			to |= reach(k, row, from)
		}
		return to
	case api.EOpt:
		return from | reach(e.Kids[0], row, from)
	case api.EPlus:
		from = reach(e.Kids[0], row, from)
		fallthrough
	case api.EStar:
		for {
			more := from | reach(e.Kids[0], row, from)
			if more == from {
				return from
			}
			from = more
		}
	}
	return from
}

// endsWith: is there a row of an expression with which these end?
func endsWith(e api.Expr, row []int) bool {
	return reach(e, row, 1<<(len(row)+1)-1)>>len(row)&1 == 1
}

// beginsWith: is there one with which they begin?
func beginsWith(e api.Expr, row []int) bool { return reach(e, row, 1) != 0 }

// joined tells of each thing whether it joins.
func joined(r api.Rules, classes []int) []bool {
	joins := make([]bool, len(classes))
	for i, c := range classes {
		if i == 0 || r.Join>>c&1 == 0 {
			continue
		}
		last := i - 1
		for joins[last] {
			last--
		}
		joins[i] = r.After>>classes[last]&1 == 1
	}
	return joins
}

// taken tells the things of a row from one place up to another that don't join, as they are treated.
func taken(r api.Rules, classes []int, joins []bool, from, to int) []int {
	var row []int
	for i := from; i < to; i++ {
		if !joins[i] {
			row = append(row, r.Treat[classes[i]])
		}
	}
	return row
}

func slowAt(r api.Rules, classes []int, joins []bool, at int) api.Opp {
	switch {
	case at == len(classes):
		return api.Must
	case at == 0 || joins[at]:
		return api.Keep
	}
	ahead, behind := taken(r, classes, joins, 0, at), taken(r, classes, joins, at, len(classes))
	for _, rule := range r.List {
		if endsWith(rule.Left, ahead) && beginsWith(rule.Right, behind) {
			return rule.Does
		}
	}
	return api.May
}

func slowRun(r api.Rules, numbers []int) []api.Opp {
	classes := slices.Clone(numbers)
	for i, n := range classes {
		if n < 0 || n >= len(r.Classes) {
			classes[i] = 0
		}
	}
	joins := joined(r, classes)
	var out []api.Opp
	for at := range len(classes) + 1 {
		out = append(out, slowAt(r, classes, joins, at))
	}
	return out
}

func hold(t *testing.T, text string, r api.Rules, m *seg.Machine, row []int) {
	t.Helper()
	if got, want := m.Run(row), slowRun(r, row); !slices.Equal(got, want) {
		t.Fatalf("P6.2: %q: %v: %v, want %v", text, row, got, want)
	}
}

// holdAll holds Run of all rows of up to so many numbers, some of which are no classes.
func holdAll(t *testing.T, text string, r api.Rules, m *seg.Machine, row []int, more int) {
	t.Helper()
	hold(t, text, r, m, row)
	if more == 0 {
		return
	}
	for c := -1; c <= len(r.Classes); c++ {
		holdAll(t, text, r, m, append(row[:len(row):len(row)], c), more-1)
	}
}

// leastStates tells how many states the least automaton has, and Make's error.
func leastStates(l []api.Expr, classes int) (int, api.Errno) {
	a, e := auto.Make(l, classes)
	if e != api.OK {
		return 0, e
	}
	a, _ = least.Make(a)
	return len(a.Next), api.OK
}

// slowMake tells how many states there are, or the error.
func slowMake(r api.Rules) (left, right int, err api.Errno) {
	if len(r.Classes) == 0 {
		return 0, 0, api.ErrName
	}
	var lefts, rights []api.Expr
	for _, rule := range r.List {
		lefts, rights = append(lefts, rule.Left), append(rights, auto.Turn(rule.Right))
	}
	if left, err = leastStates(lefts, len(r.Classes)); err != api.OK {
		return 0, 0, err
	}
	if right, err = leastStates(rights, len(r.Classes)); err != api.OK {
		return 0, 0, err
	}
	return left, right, api.OK
}

// holdRead holds a text's machine, or its fault; nil, if there is none.
func holdRead(t *testing.T, text string) (api.Rules, *seg.Machine) {
	t.Helper()
	r, want := rules.Parse(text)
	left, right := 0, 0
	if want.Code == api.OK {
		left, right, want.Code = slowMake(r)
	}
	m, f := seg.Read(text)
	if f != want || (m == nil) != (want.Code != api.OK) {
		t.Fatalf("P6.1: %q: fault %v, want %v", text, f, want)
	}
	if m == nil {
		return r, nil
	}
	if l, rt := m.States(); l != left || rt != right || m.Classes() != len(r.Classes) {
		t.Fatalf("P6.1: %q: %d classes, %d and %d states, want %d, %d and %d", text, m.Classes(), l, rt, len(r.Classes), left, right)
	}
	return r, m
}

// P6.2: rules of all kinds, over all short rows.
func TestAllShortRows(t *testing.T) {
	for _, text := range []string{
		"class A;",
		"class A B; keep A / B;",
		"class A B; must A B / ; keep / B B; may A / .; keep . / .;",
		"class A B; keep A+ / B+ A; must (A|B B)* / A; keep B? / ;",
		"class A B; must B A* / A* B; keep A A | B B / ; keep / A . A;",
		"class A B J; join J / A; must A B / ; keep A / A; must J / .;",
		"class A B J; join J / A J; must A / B A; keep B / . . .;",
		"class A B J; join J B / B; treat B = A; must A / A; keep J / ;",
		"class A B C; treat A = B; treat B = C; must A / ; keep B / C; must C C / ; keep C / ;",
		"class J K X; join J K / K X; treat J = X; treat X = K; must X / J; keep K X* / (K|X K)+;",
		"class O S N; keep S / S; may S / .; must N / .; keep . / .;",
	} {
		r, m := holdRead(t, text)
		holdAll(t, text, r, m, nil, 6)
	}
}

// feed gives numbers out of bytes; at their end zeros.
type feed []byte

func (f *feed) next(n int) int {
	if len(*f) == 0 {
		return 0
	}
	b := (*f)[0]
	*f = (*f)[1:]
	return int(b) % n
}

func (f *feed) pick(words ...string) string { return words[f.next(len(words))] }

// names writes some classes.
func (f *feed) names(classes int) string {
	var b strings.Builder
	for range f.next(3) {
		b.WriteString(" c" + strconv.Itoa(f.next(classes)))
	}
	return b.String()
}

func (f *feed) thing(deep, classes int) string {
	switch n := f.next(12); {
	case n < 6:
		return "c" + strconv.Itoa(f.next(classes))
	case n < 8:
		return "."
	case n < 10 || deep == 0:
		return f.pick("[", "[^") + f.names(classes) + "]"
	}
	return "(" + f.either(deep-1, classes) + ")"
}

func (f *feed) either(deep, classes int) string {
	var b strings.Builder
	for range f.next(4) {
		b.WriteString(f.thing(deep, classes) + f.pick("", "", "", "*", "+", "?") + f.pick(" ", " ", " ", "|"))
	}
	return b.String()
}

// text writes rules over some classes.
func (f *feed) text(classes int) string {
	var b strings.Builder
	b.WriteString("class")
	for c := range classes {
		b.WriteString(" c" + strconv.Itoa(c))
	}
	b.WriteString(";")
	for range f.next(3) {
		b.WriteString(" join" + f.names(classes) + " /" + f.names(classes) + ";")
	}
	for range f.next(3) {
		b.WriteString(" treat c" + strconv.Itoa(f.next(classes)) + " = c" + strconv.Itoa(f.next(classes)) + ";")
	}
	for range f.next(6) {
		b.WriteString(" " + f.pick("keep", "may", "must") + " " + f.either(2, classes) + "/ " + f.either(2, classes) + ";")
	}
	return b.String()
}

// dice gives bytes, the same ones at each run.
type dice uint64

func (d *dice) feed(n int) *feed {
	b := make(feed, n)
	for i := range b {
		*d = *d*6364136223846793005 + 1442695040888963407
		b[i] = byte(uint64(*d) >> 40)
	}
	return &b
}

// P6.2: rules of any kind, over all short rows, and over some longer ones.
func TestAgainstSlow(t *testing.T) {
	d := dice(6)
	refused := 0
	for range 1500 {
		f := d.feed(900)
		classes := 1 + f.next(4)
		text := f.text(classes)
		r, m := holdRead(t, text)
		if m == nil {
			refused++
			continue
		}
		holdAll(t, text, r, m, nil, 6-classes)
		for range 10 {
			row := make([]int, f.next(30))
			for i := range row {
				row[i] = f.next(classes+2) - 1
			}
			hold(t, text, r, m, row)
		}
	}
	if refused > 100 {
		t.Errorf("too few machines: %d are refused", refused)
	}
}

func FuzzRead(f *testing.F) {
	d := dice(8)
	for range 20 {
		f.Add(d.feed(100).text(3), []byte(*d.feed(12)))
	}
	f.Fuzz(func(t *testing.T, text string, b []byte) {
		r, m := holdRead(t, text)
		row := make([]int, min(len(b), 60))
		for i := range row {
			row[i] = int(int8(b[i])) % (len(r.Classes) + 2)
		}
		if m != nil {
			hold(t, text, r, m, row)
		}
	})
}
