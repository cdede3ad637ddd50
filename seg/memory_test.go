package seg_test

import (
	"slices"
	"testing"

	"stanza/api"
	"stanza/rules"
)

const roomy = "class A B J; join J / A; treat B = A; must A B* A / ; keep A / (A|B) A; must J / .;"

// spoil writes into all lists of an expression, spare room included.
func spoil(e *api.Expr) {
	for i := range e.Kids {
		spoil(&e.Kids[i])
	}
	full := e.Kids[:cap(e.Kids)]
	for i := range full {
		full[i] = api.Expr{Op: api.ESet, Set: 77}
	}
	e.Op, e.Set = api.ESet, 77
}

func sameExpr(a, b api.Expr) bool {
	return a.Op == b.Op && a.Set == b.Set && slices.EqualFunc(a.Kids, b.Kids, sameExpr)
}

func sameRules(a, b api.Rules) bool {
	return slices.Equal(a.Classes, b.Classes) && a.Join == b.Join && a.After == b.After && slices.Equal(a.Treat, b.Treat) &&
		slices.EqualFunc(a.List, b.List, func(x, y api.Rule) bool {
			return x.Does == y.Does && sameExpr(x.Left, y.Left) && sameExpr(x.Right, y.Right)
		})
}

// R6: rules that are handed in are not changed, spare room included.
func TestRulesAreNotChanged(t *testing.T) {
	r, _ := rules.Parse(roomy)
	want, _ := rules.Parse(roomy)
	r.Classes = append(r.Classes, "x", "y")[:3]
	r.Treat = append(r.Treat, 77, 78)[:3]
	r.List = append(r.List, api.Rule{Does: 77}, api.Rule{Does: 78})[:3]
	makes(t, r).Run([]int{0, 1, 2, 0})
	if !sameRules(r, want) {
		t.Errorf("R6: the rules are %v, they were %v", r, want)
	}
	if r.Classes[:5][3] != "x" || r.Treat[:5][4] != 78 || r.List[:5][3].Does != 77 || r.List[:5][4].Does != 78 {
		t.Error("R6: the rules' spare room was changed")
	}
}

// R6: rules that are handed in are not kept.
func TestRulesAreNotKept(t *testing.T) {
	r, _ := rules.Parse(roomy)
	m := makes(t, r)
	left, right := m.States()
	row := []int{0, 2, 1, 0, 0, 2, 1, 1, 0, 9}
	want := m.Run(row)
	for i := range r.List {
		spoil(&r.List[i].Left)
		spoil(&r.List[i].Right)
		r.List[i] = api.Rule{Does: 77}
	}
	clear(r.Classes)
	for c := range r.Treat {
		r.Treat[c] = 77
	}
	l, rt := m.States()
	if got := m.Run(row); !slices.Equal(got, want) || l != left || rt != right || m.Classes() != 3 {
		t.Errorf("R6: rules are kept: %v, want %v", got, want)
	}
}

// R6: classes that are handed to Run are not changed, spare room included.
func TestClassesAreNotChanged(t *testing.T) {
	row := []int{0, 2, -1, 1, 99, 0, 77, 78}
	was := slices.Clone(row)
	machine(t, roomy).Run(row[:6])
	if !slices.Equal(row, was) {
		t.Errorf("R6: the classes are %v, they were %v", row, was)
	}
}

// R6, R8: an answer of Run is new memory, and hangs on the classes alone.
func TestAnswersStandApart(t *testing.T) {
	m, other := machine(t, roomy), machine(t, roomy)
	row := []int{0, 2, 1, 0, 0, 2, 1, 1, 0}
	want := other.Run(row)
	first, second := m.Run(row), m.Run(row)
	for i := range first[:cap(first)] {
		first[:cap(first)][i] = 77
	}
	m.Run(nil)
	m.Run([]int{2, 2, 2})
	if !slices.Equal(second, want) || !slices.Equal(m.Run(row), want) {
		t.Errorf("R6, R8: %v, want %v", second, want)
	}
	clear(row)
	if !slices.Equal(second, want) {
		t.Errorf("R6: the answer shares memory with the classes: %v, want %v", second, want)
	}
}
