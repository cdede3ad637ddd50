package auto_test

import (
	"math"
	"slices"
	"testing"

	"stanza/api"
	"stanza/auto"
)

func runs(t *testing.T, a api.Auto, classes, want []int) {
	t.Helper()
	if got := auto.Run(a, classes); !slices.Equal(got, want) {
		t.Errorf("P4.2: Run of %v by %v: %v, want %v", a, classes, got, want)
	}
}

// P4.2: the states, from 0 on, behind each class.
func TestRun(t *testing.T) {
	a := made(t, 2, seq(set(0), set(1), set(0)))
	runs(t, a, nil, []int{0})
	runs(t, a, []int{}, []int{0})
	runs(t, a, []int{0}, []int{0, 1})
	runs(t, a, []int{1}, []int{0, 0})
	runs(t, a, []int{0, 1, 0, 1, 0, 0, 1, 1}, []int{0, 1, 2, 3, 2, 3, 1, 2, 0})
	long := auto.Run(a, slices.Repeat([]int{0, 1}, 50000))
	if len(long) != 100001 || long[99999] != 3 || long[100000] != 2 {
		t.Errorf("P4.2: Run by 100000 classes: %d states", len(long))
	}
}

// P4.2: a number that is no class ends it.
func TestRunNoClass(t *testing.T) {
	a := made(t, 2, seq(set(0), set(1)))
	for _, c := range []int{-1, 2, 3, 24, 1 << 32, math.MaxInt, math.MinInt} {
		runs(t, a, []int{c}, []int{0})
		runs(t, a, []int{c, 0, 1}, []int{0})
		runs(t, a, []int{0, 1, c, 0}, []int{0, 1, 2})
	}
}

// P4.2: of an automaton without states none.
func TestRunNoStates(t *testing.T) {
	for _, classes := range [][]int{nil, {0}, {-1}, {0, 0, 0}} {
		runs(t, api.Auto{}, classes, nil)
		runs(t, api.Auto{Next: [][]int{}, Out: []uint32{}}, classes, nil)
		runs(t, api.Auto{Out: []uint32{1, 2}}, classes, nil)
	}
}

// P4.2, P1: of automata that don't fit together: as many classes as the state itself has ways; where there is no state, there are none.
func TestRunUnfit(t *testing.T) {
	runs(t, api.Auto{Next: [][]int{nil}}, []int{0, 0}, []int{0})
	runs(t, api.Auto{Next: [][]int{{0, 0}}}, []int{0, 1, 0, 2, 0}, []int{0, 0, 0, 0})
	runs(t, api.Auto{Next: [][]int{{1}, {2, 0}, {}}, Out: []uint32{5}}, []int{0, 1, 0, 0, 0, 1}, []int{0, 1, 0, 1, 2})
	for _, n := range []int{1, 2, -1, math.MaxInt, math.MinInt} {
		runs(t, api.Auto{Next: [][]int{{n}}, Out: []uint32{0}}, []int{0, 0, 0}, []int{0, n})
		runs(t, api.Auto{Next: [][]int{{0, n}}, Out: []uint32{0}}, []int{0, 1, 0}, []int{0, 0, n})
	}
}
