package rules_test

import (
	"testing"

	"stanza/api"
	"stanza/rules"
)

const roomy = "class A B C D; set S = A B; join A B/C; treat A = B; keep A B C (A|B|C) D*/(A B C)|S|.|A B; may A B C/A|B|C; must A*/B+;"

// spill writes into the spare room of an expression's lists.
func spill(e *api.Expr) {
	for i := range e.Kids {
		spill(&e.Kids[i])
	}
	full := e.Kids[:cap(e.Kids)]
	for i := len(e.Kids); i < len(full); i++ {
		full[i] = api.Expr{Op: 99, Set: 99}
	}
}

// R6: no two lists of an answer share memory: what is written into the spare room of one is not seen in another.
func TestAnswersStandApart(t *testing.T) {
	want, _ := slowParse(roomy)
	got := good(t, roomy)
	_ = append(got.Classes, "x", "y", "z")
	_ = append(got.Treat, 99, 98, 97)
	_ = append(got.List, api.Rule{Does: 99}, api.Rule{Does: 98})
	for i := range got.List {
		spill(&got.List[i].Left)
		spill(&got.List[i].Right)
	}
	if !sameRules(got, want) {
		t.Errorf("R6: %v, want %v", got, want)
	}
}

// R6, R8: an answer is new memory: what a caller does with one isn't seen in the next one; and faults leave nothing behind.
func TestCallsStandApart(t *testing.T) {
	want, _ := slowParse(roomy)
	first := good(t, roomy)
	second := good(t, roomy)
	clear(first.Classes)
	clear(first.Treat)
	for i := range first.List {
		clear(first.List[i].Left.Kids)
		clear(first.List[i].Right.Kids)
	}
	clear(first.List)
	rules.Parse("class A A")
	rules.Parse("class Z; keep ((((")
	if !sameRules(second, want) || !sameRules(good(t, roomy), want) {
		t.Errorf("R6, R8: %v, want %v", second, want)
	}
	bad(t, "keep Z/;", at(api.ErrName, 5))
}
