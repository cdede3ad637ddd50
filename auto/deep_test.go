package auto_test

import (
	"runtime/debug"
	"slices"
	"testing"

	"stanza/api"
	"stanza/auto"
)

const depth = 300000

// nest is an expression that stands so deep in others of one kind.
func nest(op api.ExprOp, inner api.Expr) api.Expr {
	for range depth {
		inner = of(op, inner)
	}
	return inner
}

// smallStack lets a program end with a fault whose stack grows with what it is given.
func smallStack(t *testing.T) {
	was := debug.SetMaxStack(1 << 20)
	t.Cleanup(func() { debug.SetMaxStack(was) })
}

// P1: expressions as deep as they like.
func TestDeepMake(t *testing.T) {
	smallStack(t)
	for op, want := range map[api.ExprOp]string{
		api.ENone: "0>1", api.ESet: "0>0", api.ESeq: "1>0 1>1", api.EAlt: "1>0 1>1",
		api.EStar: "1>1 1>1", api.EPlus: "1>0 1>1", api.EOpt: "1>1 1>1", 7: "0>1",
	} {
		if got := show(made(t, 1, nest(op, set(0)))); got != want {
			t.Errorf("P4.1: %d expressions of kind %d in one another: %s, want %s", depth, op, got, want)
		}
	}
	e := none()
	for range depth {
		e = seq(opt(), e, star())
	}
	makes(t, "0>1", 1, e)
}

// P1: expressions as wide as they like.
func TestWideMake(t *testing.T) {
	wide := row(depth, none())
	wide.Kids[7], wide.Kids[depth-7] = set(0), set(1)
	makes(t, "1,0>0 1,2>0 1,0>1", 2, wide)
	makes(t, "1>1 1>1", 1, alt(row(depth, star()), alt(slices.Repeat([]api.Expr{set(0)}, 200)...)))
}

// P1: of too many places no more than these are looked at, though one list stands for ever so many.
func TestEndlessPlaces(t *testing.T) {
	e := set(0)
	for range 60 {
		e = alt(e, e)
	}
	refuses(t, api.ErrPlaces, 1, e)
	ring := []api.Expr{set(0), {}}
	ring[1] = star(seq(ring...))
	ring[1].Kids[0].Kids = ring
	refuses(t, api.ErrPlaces, 1, ring...)
}

// P1: Turn of expressions as deep as they like.
func TestDeepTurn(t *testing.T) {
	smallStack(t)
	for op := range 9 {
		got := auto.Turn(nest(api.ExprOp(op), seq(set(0), set(1))))
		for i := range depth {
			if got.Op != api.ExprOp(op) || len(got.Kids) != 1 {
				t.Fatalf("P4.2: expression %d of kind %d: %d kids of kind %d", i, op, len(got.Kids), got.Op)
			}
			got = got.Kids[0]
		}
		if !sameExpr(got, seq(set(1), set(0))) {
			t.Errorf("P4.2: the innermost one: %v", got)
		}
	}
}
