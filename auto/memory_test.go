package auto_test

import (
	"slices"
	"testing"

	"stanza/api"
	"stanza/auto"
)

// roomy tells an expression whose lists have spare room, with something in it.
func roomy() api.Expr {
	room := []api.Expr{set(0), star(seq(set(0), set(1)), set(2)), set(1), set(2), plus(set(1))}
	room[1].Kids = []api.Expr{seq(set(0), set(1)), set(2), set(0)}[:1]
	return api.Expr{Op: api.ESeq, Kids: room[:3]}
}

// R6: what is handed in isn't changed, spare room included.
func TestNothingIsChanged(t *testing.T) {
	e, want := roomy(), roomy()
	list := []api.Expr{e, set(2), set(1)}
	classes := []int{0, 1, 5, 7}
	a := made(t, 2, list[:1]...)
	auto.Turn(e)
	auto.Run(a, classes[:2])
	if !sameExpr(e, want) || !sameExpr(of(0, e.Kids[:5]...), of(0, want.Kids[:5]...)) || !sameExpr(of(0, e.Kids[1].Kids[:3]...), of(0, want.Kids[1].Kids[:3]...)) {
		t.Errorf("R6: %v was changed, it was %v", e, want)
	}
	if !sameExpr(list[1], set(2)) || !sameExpr(list[2], set(1)) || !slices.Equal(classes, []int{0, 1, 5, 7}) {
		t.Errorf("R6: changed: %v, %v", list, classes)
	}
	if again := made(t, 2, want); show(again) != show(a) {
		t.Errorf("R6: Run changed the automaton: %s, want %s", show(a), show(again))
	}
}

// R6, R8: an answer of Make is new memory, and no two lists of it share any.
func TestAutomataStandApart(t *testing.T) {
	first, second := made(t, 2, roomy()), made(t, 2, roomy())
	want := show(second)
	for i := range first.Next {
		_ = append(first.Next[i], 99, 98, 97)
	}
	_ = append(first.Next, []int{9})
	_ = append(first.Out, 9)
	if show(first) != want {
		t.Errorf("R6: spare room is shared: %s, want %s", show(first), want)
	}
	for i := range first.Next {
		clear(first.Next[i])
	}
	clear(first.Out)
	auto.Make([]api.Expr{row(201, set(0))}, 1)
	if show(second) != want || show(made(t, 2, roomy())) != want {
		t.Errorf("R6, R8: %s, want %s", show(second), want)
	}
}

// spoil writes into all lists of an expression, spare room included.
func spoil(e *api.Expr) {
	for i := range e.Kids {
		spoil(&e.Kids[i])
	}
	full := e.Kids[:cap(e.Kids)]
	for i := range full {
		full[i] = api.Expr{Op: 77, Set: 77}
	}
}

// R6: an answer of Turn shares no memory with what was handed in, and no two lists of it share any, though those that were handed in do.
func TestTurnedStandApart(t *testing.T) {
	e := roomy()
	want := auto.Turn(roomy())
	got, other := auto.Turn(e), auto.Turn(e)
	spoil(&e)
	if !sameExpr(got, want) {
		t.Errorf("R6: Turn keeps what is handed in: %v, want %v", got, want)
	}
	spoil(&got)
	if !sameExpr(other, want) {
		t.Errorf("R6: two answers share memory: %v, want %v", other, want)
	}
	kids := []api.Expr{set(0), set(1)}
	twice := auto.Turn(alt(api.Expr{Op: api.EAlt, Kids: kids}, api.Expr{Op: api.EStar, Kids: kids}))
	spoil(&twice.Kids[0])
	if !sameExpr(twice.Kids[1], star(kids...)) || !sameExpr(of(0, kids...), of(0, set(0), set(1))) {
		t.Errorf("R6: lists of one answer share memory: %v", twice)
	}
}

// R6, R8: what Run answers is new memory.
func TestStatesStandApart(t *testing.T) {
	a := made(t, 1, seq(set(0), set(0)))
	classes := []int{0, 0}
	first, second := auto.Run(a, classes), auto.Run(a, classes)
	clear(first)
	clear(classes)
	if !slices.Equal(second, []int{0, 1, 2}) || !slices.Equal(a.Next[0], []int{1}) {
		t.Errorf("R6: Run shares memory: %v, %v", second, a)
	}
}
