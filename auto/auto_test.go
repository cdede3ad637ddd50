package auto_test

import (
	"slices"
	"strconv"
	"strings"
	"testing"

	"stanza/api"
	"stanza/auto"
)

// set is the expression of some classes.
func set(classes ...int) api.Expr {
	e := api.Expr{Op: api.ESet}
	for _, c := range classes {
		e.Set |= 1 << c
	}
	return e
}

func of(op api.ExprOp, kids ...api.Expr) api.Expr { return api.Expr{Op: op, Kids: kids} }
func seq(kids ...api.Expr) api.Expr               { return of(api.ESeq, kids...) }
func alt(kids ...api.Expr) api.Expr               { return of(api.EAlt, kids...) }
func star(kids ...api.Expr) api.Expr              { return of(api.EStar, kids...) }
func plus(kids ...api.Expr) api.Expr              { return of(api.EPlus, kids...) }
func opt(kids ...api.Expr) api.Expr               { return of(api.EOpt, kids...) }
func none() api.Expr                              { return api.Expr{} }

// show tells an automaton as a text: of each state its ways, > and its Out.
func show(a api.Auto) string {
	if len(a.Next) != len(a.Out) {
		return strconv.Itoa(len(a.Next)) + " states, but " + strconv.Itoa(len(a.Out)) + " Out"
	}
	var states []string
	for i, ways := range a.Next {
		var to []string
		for _, n := range ways {
			to = append(to, strconv.Itoa(n))
		}
		states = append(states, strings.Join(to, ",")+">"+strconv.Itoa(int(a.Out[i])))
	}
	return strings.Join(states, " ")
}

func made(t *testing.T, classes int, l ...api.Expr) api.Auto {
	t.Helper()
	a, e := auto.Make(l, classes)
	if e != api.OK {
		t.Fatalf("P4.1: %v over %d classes: error %d", l, classes, e)
	}
	return a
}

func makes(t *testing.T, want string, classes int, l ...api.Expr) {
	t.Helper()
	if got := show(made(t, classes, l...)); got != want {
		t.Errorf("P4.1: %v over %d classes: %s, want %s", l, classes, got, want)
	}
}

func refuses(t *testing.T, want api.Errno, classes int, l ...api.Expr) {
	t.Helper()
	a, e := auto.Make(l, classes)
	if e != want {
		t.Errorf("P4.1: %d expressions over %d classes: error %d, want %d", len(l), classes, e, want)
	}
	if e != api.OK && (a.Next != nil || a.Out != nil) {
		t.Errorf("R3: beside error %d: %v", e, a)
	}
}

// P4.1: the chapter's examples.
func TestExamples(t *testing.T) {
	a := set(0)
	makes(t, "1>0 1>1", 1, a)
	makes(t, "1>0 2>0 2>1", 1, seq(a, a))
	makes(t, "1>1 1>1", 1, star(a))
}

// P4.1: each kind of expressions, by itself and one in another: the states' numbers, ways and Out.
func TestKinds(t *testing.T) {
	a, b, ab := set(0), set(1), set(0, 1)
	for _, x := range []struct {
		want string
		e    api.Expr
	}{
		{"0,0>1", none()},
		{"0,0>0", set()},
		{"1,0>0 1,0>1", a},
		{"0,1>0 0,1>1", b},
		{"1,1>0 1,1>1", ab},
		{"1,0>0 1,2>0 1,0>1", seq(a, b)},
		{"0,1>0 2,1>0 0,1>1", seq(b, a)},
		{"1,2>0 1,2>1 1,2>1", alt(a, b)},
		{"1,2>0 1,2>1 1,2>1", alt(b, a)},
		{"1,0>0 1,0>1", alt(a, a, set())}, // the two places are always come to together
		{"1,0>1 1,0>1", star(a)},
		{"1,0>0 1,0>1", plus(a)},
		{"1,0>1 1,0>1", opt(a)},
		{"1,2>0 1,2>0 1,2>1", seq(star(a), b)},
		{"1,0>0 1,2>0 1,0>1", seq(plus(a), b)},
		{"1,2>0 1,2>0 1,2>1", seq(opt(a), b)},
		{"1,0>0 1,2>1 1,2>1", seq(a, star(b))},
		{"1,0>0 1,2>0 1,2>1", seq(a, plus(b))},
		{"1,0>0 1,2>1 1,0>1", seq(a, opt(b))},
		{"1,2>1 1,2>1 1,2>1", star(alt(a, b))},
		{"1,0>0 1,2>0 1,0>1", plus(seq(a, b))},
		{"1,0>1 1,0>1", plus(opt(a))},
		{"1,0>1 1,0>1", opt(plus(a))},
		{"1,0>1 1,0>1", star(star(a))},
		{"1,0>0 1,0>1", seq(none(), a, none())},
		{"1,0>1 1,0>1", alt(none(), a)},
		{"1,0>0 2,3>0 2,3>1 1,0>1", seq(a, ab)},
		{"1,1>0 2,3>0 2,3>0 4,5>1 2,3>1 4,5>1", seq(ab, star(a), b, opt(ab))},
	} {
		makes(t, x.want, 2, x.e)
	}
	// Again and again: behind each row the next one may begin.
	makes(t, "1,0>0 1,2>0 3,0>0 1,2>1", 2, seq(a, b, a))
	makes(t, "1,0>0 1,2>0 3,0>0 1,4>0 3,0>1", 2, seq(a, plus(seq(b, a)), b))
}

// P4.1: several expressions together: their places stand apart, each has its bit.
func TestSeveral(t *testing.T) {
	a, b := set(0), set(1)
	makes(t, "0>0", 1)
	makes(t, "0,0,0>0", 3)
	makes(t, "1,0>0 1,2>1 1,0>2", 2, a, seq(a, b))
	makes(t, "1,0>0 1,2>2 1,0>1", 2, seq(a, b), a)
	makes(t, "1,2>4 1,2>5 1,2>6", 2, a, b, none())
	makes(t, "0>5", 1, none(), set(), star(set()))
	makes(t, "1>0 2>1 3>3 3>7", 1, a, seq(a, a), seq(a, a, a))
	// All expressions that there may be: the last one's bit is 23.
	l := slices.Repeat([]api.Expr{none()}, 23)
	makes(t, "1>8388607 1>16777215", 1, append(l, a)...)
	var own []api.Expr
	for c := range 24 {
		own = append(own, set(c))
	}
	x := made(t, 24, own...)
	for s, ways := range x.Next {
		for c, to := range ways {
			if to != c+1 {
				t.Errorf("P4.1: 24 expressions, a class each: from state %d by %d to %d", s, c, to)
			}
		}
		if want := uint32(1) << s >> 1; x.Out[s] != want {
			t.Errorf("P4.1: 24 expressions, a class each: Out of state %d: %x, want %x", s, x.Out[s], want)
		}
	}
}

// P4.1: states are numbered as they are come to, state by state, by the classes.
func TestNumbers(t *testing.T) {
	makes(t, "0,1,2,3>0 0,4,2,3>0 0,1,5,3>0 0,1,2,6>0 0,4,2,3>1 0,1,5,3>2 0,1,2,6>4", 4,
		seq(set(1), set(1)), seq(set(2), set(2)), seq(set(3), set(3)))
	makes(t, "0,0,1>0 0,2,1>0 3,0,1>0 0,0,1>1", 3, seq(set(2), set(1), set(0)))
	// Where places stand doesn't number states, but by which classes they are come to.
	makes(t, "1,2,3>0 1,2,3>4 1,2,3>2 1,2,3>1", 3, set(2), set(1), set(0))
	makes(t, "1,2,3>0 1,2,3>1 1,2,3>1 1,2,3>1", 3, alt(set(2), set(0), set(1)))
}

// P4.1: kids that the chapter leaves out say nothing, and hold no places.
func TestKidsLeftOut(t *testing.T) {
	a, b := set(0), set(1)
	many := seq(slices.Repeat([]api.Expr{a}, 201)...)
	makes(t, "1,0>1 1,0>1", 2, star(a, b, many))
	makes(t, "1,0>0 1,0>1", 2, plus(a, b, many))
	makes(t, "1,0>1 1,0>1", 2, opt(a, b, many))
	makes(t, "0,0>1", 2, of(api.ENone, a, many))
	for _, op := range []api.ExprOp{7, 8, 99, 255} {
		makes(t, "0,0>1", 2, api.Expr{Op: op, Set: 3, Kids: []api.Expr{a, many}})
		makes(t, "1,0>0 1,2>0 1,0>1", 2, seq(a, of(op, many), b))
	}
	makes(t, "1,0>0 1,0>1", 2, api.Expr{Op: api.ESet, Set: 1, Kids: []api.Expr{b, many}})
	// A Set says something of ESet alone.
	for _, op := range []api.ExprOp{api.ENone, api.ESeq, api.EStar, api.EOpt} {
		makes(t, "0,0>1", 2, api.Expr{Op: op, Set: 3})
	}
	for _, op := range []api.ExprOp{api.EAlt, api.EPlus} {
		makes(t, "0,0>0", 2, api.Expr{Op: op, Set: 3})
	}
}

// P4.1: no kids where one is wanted: the empty row, of EPlus and EAlt no row.
func TestNoKids(t *testing.T) {
	a, b := set(0), set(1)
	makes(t, "0>13", 1, star(), plus(), opt(), seq(), alt())
	makes(t, "1,0>0 1,2>0 1,0>1", 2, seq(star(), a, opt(), seq(), b, star()))
	makes(t, "1,0>0 1,0>1", 2, alt(a, plus(), alt()))
	makes(t, "0,0>1", 2, star(plus()))
	makes(t, "0,0>0", 2, plus(plus(plus())))
	makes(t, "0,0>0", 2, seq(plus(), a))
	makes(t, "0,0>0", 2, seq(star(), alt(), a))
	// A place is come to, though no row ends behind it.
	makes(t, "1,0>0 1,0>0", 2, seq(a, plus(), b))
	makes(t, "1,0>0 1,0>0", 2, seq(a, set(), b))
}

// P4.1: bits beyond the classes are no classes.
func TestBitsBeyond(t *testing.T) {
	full := api.Expr{Op: api.ESet, Set: 1<<32 - 1}
	makes(t, "1>0 1>1", 1, full)
	makes(t, "0>0", 1, api.Expr{Op: api.ESet, Set: 1<<32 - 2})
	makes(t, "1>0 1>0", 1, seq(set(0, 7), set(1), set(0)))
	makes(t, "0,1>0 2,1>0 0,1>1", 2, seq(set(1, 2, 31), set(0, 24)))
	x := made(t, 24, api.Expr{Op: api.ESet, Set: 0xff << 23})
	for c := range 24 {
		if want := c / 23; x.Next[0][c] != want {
			t.Errorf("P4.1: by class %d to state %d, want %d", c, x.Next[0][c], want)
		}
	}
}
