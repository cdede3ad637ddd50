package auto_test

import (
	"bytes"
	"testing"

	"stanza/api"
	"stanza/auto"
)

// The tests of this file hold Make against a slow one of another make: it keeps marks in the expressions themselves, and shifts them class by class. What Out says is held against the rows that the chapter's section 'Words' tells, one by one.

// read tells the kids that are not left out.
func read(e api.Expr) []api.Expr {
	switch e.Op {
	case api.ESeq, api.EAlt:
		return e.Kids
	case api.EStar, api.EPlus, api.EOpt:
		if len(e.Kids) > 0 {
			return e.Kids[:1]
		}
	}
	return nil
}

// node is an expression whose places have numbers.
type node struct {
	op   api.ExprOp
	set  uint32
	id   int
	kids []*node
}

func number(e api.Expr, count *int) *node {
	n := &node{op: e.Op, set: e.Set}
	if e.Op == api.ESet {
		n.id = *count
		*count++
	}
	for _, k := range read(e) {
		n.kids = append(n.kids, number(k, count))
	}
	return n
}

// empty: is the empty row said?
func (n *node) empty() bool {
	switch n.op {
	case api.ESet:
		return false
	case api.ESeq:
		for _, k := range n.kids {
			if !k.empty() {
				return false
			}
		}
		return true
	case api.EAlt, api.EPlus:
		for _, k := range n.kids {
			if k.empty() {
				return true
			}
		}
		return false
	}
	return true
}

// ended: does a row end at a mark?
func (n *node) ended(marks []byte) bool {
	if n.op == api.ESet {
		return marks[n.id] == 1
	}
	end := false
	for _, k := range n.kids {
		if n.op == api.ESeq {
			end = end && k.empty() || k.ended(marks)
		} else {
			end = end || k.ended(marks)
		}
	}
	return end
}

// shift puts the marks behind one more class; begin: may a row begin with it?
func (n *node) shift(begin bool, class int, was, now []byte) {
	if n.op == api.ESet && begin && n.set&(1<<class) != 0 {
		now[n.id] = 1
	}
	for _, k := range n.kids {
		switch n.op {
		case api.ESeq:
			k.shift(begin, class, was, now)
			begin = begin && k.empty() || k.ended(was)
		case api.EStar, api.EPlus:
			k.shift(begin || k.ended(was), class, was, now)
		default:
			k.shift(begin, class, was, now)
		}
	}
}

// slowMake tells the automaton with all of its states, but no more than a good deal over 300; nothing, if there are too many places.
func slowMake(l []api.Expr, classes int) api.Auto {
	var whole []*node
	count := 0
	for _, e := range l {
		whole = append(whole, number(e, &count))
	}
	if count > 200 {
		return api.Auto{}
	}
	var a api.Auto
	states := [][]byte{make([]byte, count)}
	for i := 0; i < len(states) && i < 400; i++ {
		var out uint32
		for j, n := range whole {
			if n.empty() || n.ended(states[i]) {
				out |= 1 << j
			}
		}
		var ways []int
		for c := 0; c < classes; c++ {
			now := make([]byte, count)
			for _, n := range whole {
				n.shift(true, c, states[i], now)
			}
			to := 0
			for to < len(states) && !bytes.Equal(states[to], now) {
				to++
			}
			if to == len(states) {
				states = append(states, now)
			}
			ways = append(ways, to)
		}
		a.Next = append(a.Next, ways)
		a.Out = append(a.Out, out)
	}
	return a
}

// says: is a row of classes among those of an expression?
func says(e api.Expr, row []int) bool {
	kids := read(e)
	switch e.Op {
	case api.ESet:
		return len(row) == 1 && e.Set>>row[0]&1 == 1
	case api.ESeq:
		return saysSeq(kids, row)
	case api.EAlt:
		for _, k := range kids {
			if says(k, row) {
				return true
			}
		}
		return false
	case api.EStar:
		return len(row) == 0 || saysMore(kids, row)
	case api.EPlus:
		return saysMore(kids, row)
	case api.EOpt:
		return len(row) == 0 || len(kids) > 0 && says(kids[0], row)
	}
	return len(row) == 0
}

func saysSeq(kids []api.Expr, row []int) bool {
	if len(kids) == 0 {
		return len(row) == 0
	}
	for i := range len(row) + 1 {
		if says(kids[0], row[:i]) && saysSeq(kids[1:], row[i:]) {
			return true
		}
	}
	return false
}

// saysMore: one row of the first kid, or more of them.
func saysMore(kids []api.Expr, row []int) bool {
	if len(kids) == 0 {
		return false
	}
	if says(kids[0], row) {
		return true
	}
	for i := 1; i < len(row); i++ {
		if says(kids[0], row[:i]) && saysMore(kids, row[i:]) {
			return true
		}
	}
	return false
}

// endsWith tells the expressions of which a row of classes ends with a row.
func endsWith(l []api.Expr, row []int) uint32 {
	var bits uint32
	for i, e := range l {
		for from := range len(row) + 1 {
			if says(e, row[from:]) {
				bits |= 1 << i
			}
		}
	}
	return bits
}

func holdMake(t *testing.T, l []api.Expr, classes int) api.Errno {
	t.Helper()
	want, wantErr := slowMake(l, classes), api.OK
	switch {
	case len(want.Out) == 0:
		want, wantErr = api.Auto{}, api.ErrPlaces
	case len(want.Out) > 300:
		want, wantErr = api.Auto{}, api.ErrStates
	}
	got, err := auto.Make(l, classes)
	if err != wantErr || show(got) != show(want) {
		t.Fatalf("P4.1: %v over %d classes: error %d, %s\nwant %d, %s", l, classes, err, show(got), wantErr, show(want))
	}
	return err
}

// holdOut holds Out, and Run, against all rows of up to so many classes.
func holdOut(t *testing.T, l []api.Expr, a api.Auto, row []int, more int) {
	t.Helper()
	states := auto.Run(a, row)
	if len(states) != len(row)+1 {
		t.Fatalf("P4.2: %v of %s: %v", row, show(a), states)
	}
	if got, want := a.Out[states[len(row)]], endsWith(l, row); got != want {
		t.Fatalf("P4.1: %v: behind %v Out is %b, want %b", l, row, got, want)
	}
	if more > 0 {
		for c := range a.Next[0] {
			holdOut(t, l, a, append(row[:len(row):len(row)], c), more-1)
		}
	}
}

// feed gives numbers out of bytes; at their end zeros.
type feed []byte

func (f *feed) next(n int) int {
	if len(*f) == 0 {
		return 0
	}
	b := (*f)[0]
	*f = (*f)[1:]
	return int(b) % n
}

// expr makes an expression that fits, of a few classes.
func (f *feed) expr(deep, classes int) api.Expr {
	kind := f.next(16)
	if deep == 0 {
		kind %= 4
	}
	switch {
	case kind < 3:
		return set(f.next(classes))
	case kind == 3:
		return api.Expr{Op: api.ESet, Set: uint32(f.next(1 << classes))}
	case kind == 4:
		return none()
	case kind < 9:
		return of(api.ESeq, f.exprs(2+f.next(3), deep-1, classes)...)
	case kind < 12:
		return of(api.EAlt, f.exprs(2+f.next(2), deep-1, classes)...)
	}
	return of([]api.ExprOp{api.EStar, api.EPlus, api.EOpt}[kind%3], f.expr(deep-1, classes))
}

func (f *feed) exprs(n, deep, classes int) []api.Expr {
	l := make([]api.Expr, n)
	for i := range l {
		l[i] = f.expr(deep, classes)
	}
	return l
}

// wild makes an expression of any numbers, sets and kids.
func (f *feed) wild(deep int) api.Expr {
	e := api.Expr{Op: api.ExprOp(f.next(9)), Set: uint32(f.next(256)) | uint32(f.next(256))<<24}
	if f.next(20) == 19 {
		e.Op = api.ExprOp(f.next(256))
	}
	if deep > 0 {
		for range f.next(5) {
			e.Kids = append(e.Kids, f.wild(deep-1))
		}
	}
	return e
}

// dice gives bytes, the same ones at each run.
type dice uint64

func (d *dice) feed(n int) *feed {
	b := make(feed, n)
	for i := range b {
		*d = *d*6364136223846793005 + 1442695040888963407
		b[i] = byte(uint64(*d) >> 40)
	}
	return &b
}

// P4.1: ordinary expressions, several together.
func TestAgainstSlow(t *testing.T) {
	d := dice(4)
	seen := map[api.Errno]int{}
	for i := range 6000 {
		f := d.feed(200)
		classes := 1 + f.next(4)
		l := f.exprs(f.next(4), 1+f.next(4), classes)
		err := holdMake(t, l, classes)
		seen[err]++
		if err == api.OK && i%4 == 0 {
			holdOut(t, l, made(t, classes, l...), nil, 4)
		}
	}
	if seen[api.OK] < 4000 {
		t.Errorf("too few automata: %v", seen)
	}
}

// P4.1, P1: expressions of any numbers, sets and kids.
func TestWildAgainstSlow(t *testing.T) {
	d := dice(6)
	seen := map[api.Errno]int{}
	for i := range 6000 {
		f := d.feed(400)
		classes := 1 + f.next(24)
		var l []api.Expr
		for range f.next(5) {
			l = append(l, f.wild(f.next(6)))
		}
		err := holdMake(t, l, classes)
		seen[err]++
		if err == api.OK && i%8 == 0 {
			holdOut(t, l, made(t, classes, l...), nil, 7/(1+classes))
		}
	}
	if seen[api.OK] < 3000 {
		t.Errorf("too few automata: %v", seen)
	}
}

// P4.1: expressions with many places and states.
func TestLimitsAgainstSlow(t *testing.T) {
	d := dice(8)
	seen := map[api.Errno]int{}
	for range 150 {
		f := d.feed(2000)
		classes := 2 + f.next(2)
		l := []api.Expr{seq(f.exprs(30+f.next(60), 2, classes)...), row(f.next(40), set(1))}
		seen[holdMake(t, l, classes)]++
	}
	for _, err := range []api.Errno{api.OK, api.ErrPlaces, api.ErrStates} {
		if seen[err] < 10 {
			t.Errorf("too few with error %d: %v", err, seen)
		}
	}
}

func FuzzMake(f *testing.F) {
	d := dice(10)
	for range 20 {
		f.Add([]byte(*d.feed(100)))
	}
	f.Fuzz(func(t *testing.T, b []byte) {
		in := feed(b)
		classes := 1 + in.next(24)
		var l []api.Expr
		for range in.next(5) {
			l = append(l, in.wild(in.next(6)))
		}
		holdMake(t, l, classes)
		for _, e := range l {
			holdTurn(t, e)
		}
	})
}
