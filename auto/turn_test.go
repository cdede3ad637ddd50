package auto_test

import (
	"slices"
	"testing"

	"stanza/api"
	"stanza/auto"
)

func sameExpr(a, b api.Expr) bool {
	return a.Op == b.Op && a.Set == b.Set && slices.EqualFunc(a.Kids, b.Kids, sameExpr)
}

func turns(t *testing.T, e, want api.Expr) {
	t.Helper()
	if got := auto.Turn(e); !sameExpr(got, want) {
		t.Errorf("P4.2: Turn of %v: %v, want %v", e, got, want)
	}
	if back := auto.Turn(auto.Turn(e)); !sameExpr(back, e) {
		t.Errorf("P4.2: Turn of a turned one: %v, want %v", back, e)
	}
}

// P4.2: Turn of each kind.
func TestTurn(t *testing.T) {
	a, b, c := set(0), set(1), set(2)
	ab, ba := seq(a, b), seq(b, a)
	turns(t, none(), none())
	turns(t, a, a)
	turns(t, set(), set())
	turns(t, api.Expr{Op: api.ESet, Set: 1<<32 - 1}, api.Expr{Op: api.ESet, Set: 1<<32 - 1})
	turns(t, seq(), seq())
	turns(t, seq(a), seq(a))
	turns(t, ab, ba)
	turns(t, seq(a, b, c), seq(c, b, a))
	turns(t, seq(a, b, c, a), seq(a, c, b, a))
	turns(t, seq(ab, c, none()), seq(none(), c, ba))
	turns(t, seq(seq(ab, c), seq(c, ab)), seq(seq(ba, c), seq(c, ba)))
	turns(t, alt(), alt())
	turns(t, alt(a, b, c), alt(a, b, c))
	turns(t, alt(ab, c, seq(a, c)), alt(ba, c, seq(c, a)))
	turns(t, seq(alt(ab, c), star(ab)), seq(star(ba), alt(ba, c)))
	for _, op := range []api.ExprOp{api.EStar, api.EPlus, api.EOpt} {
		turns(t, of(op), of(op))
		turns(t, of(op, a), of(op, a))
		turns(t, of(op, ab), of(op, ba))
		turns(t, of(op, of(op, alt(seq(a, b, c)))), of(op, of(op, alt(seq(c, b, a)))))
	}
}

// P4.2: kids that are left out elsewhere are turned, and all numbers stay.
func TestTurnAll(t *testing.T) {
	a, b := set(0), set(1)
	for op := range 256 {
		e := api.Expr{Op: api.ExprOp(op), Set: 0xdeadbeef, Kids: []api.Expr{a, seq(a, b), of(99, seq(a, b), none())}}
		want := api.Expr{Op: api.ExprOp(op), Set: 0xdeadbeef, Kids: []api.Expr{a, seq(b, a), of(99, seq(b, a), none())}}
		if e.Op == api.ESeq {
			slices.Reverse(want.Kids)
		}
		turns(t, e, want)
	}
}

// slowTurn is Turn, as the chapter says it.
func slowTurn(e api.Expr) api.Expr {
	out := api.Expr{Op: e.Op, Set: e.Set}
	for _, k := range e.Kids {
		if e.Op == api.ESeq {
			out.Kids = append([]api.Expr{slowTurn(k)}, out.Kids...)
		} else {
			out.Kids = append(out.Kids, slowTurn(k))
		}
	}
	return out
}

func holdTurn(t *testing.T, e api.Expr) {
	t.Helper()
	got := auto.Turn(e)
	if want := slowTurn(e); !sameExpr(got, want) {
		t.Fatalf("P4.2: Turn of %v: %v, want %v", e, got, want)
	}
	if back := auto.Turn(got); !sameExpr(back, e) {
		t.Fatalf("P4.2: Turn of a turned one: %v, want %v", back, e)
	}
}

// P4.2: expressions of any numbers and kids.
func TestTurnAgainstSlow(t *testing.T) {
	d := dice(12)
	for range 4000 {
		f := d.feed(400)
		holdTurn(t, f.wild(f.next(7)))
	}
}

// P4.2: a turned expression says the rows the other way round.
func TestTurnedRows(t *testing.T) {
	d := dice(14)
	for range 600 {
		e := d.feed(120).expr(3, 2)
		turned := auto.Turn(e)
		for bits := range 1 << 5 {
			for n := range 6 {
				row := make([]int, n)
				for i := range row {
					row[i] = bits >> i & 1
				}
				there := says(e, row)
				slices.Reverse(row)
				if says(turned, row) != there {
					t.Fatalf("P4.2: Turn of %v: %v: row %v", e, turned, row)
				}
			}
		}
	}
}
