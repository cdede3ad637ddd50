package least_test

import (
	"testing"

	"stanza/api"
)

const many = 100000

// chain leads from each state to the next one; the last one leads to itself.
func chain(out func(s int) uint32) api.Auto {
	a := api.Auto{Next: make([][]int, many), Out: make([]uint32, many)}
	for s := range a.Next {
		a.Next[s] = []int{min(s+1, many-1)}
		a.Out[s] = out(s)
	}
	return a
}

// P5.2, P1: states that are told apart only behind ever so many classes.
func TestLongChain(t *testing.T) {
	a := chain(func(s int) uint32 { return uint32(s / (many - 1)) })
	b := made(t, a)
	if len(b.Out) != many || b.Out[many-1] != 1 || b.Next[many-2][0] != many-1 {
		t.Errorf("P5.2: a chain of %d states: %d states", many, len(b.Out))
	}
	for s := range b.Next {
		if b.Next[s][0] != a.Next[s][0] || b.Out[s] != a.Out[s] {
			t.Fatalf("P5.2: a chain: state %d leads to %d, its Out is %d", s, b.Next[s][0], b.Out[s])
		}
	}
	if b := made(t, chain(func(int) uint32 { return 3 })); show(b) != "0>3" {
		t.Errorf("P5.2: a chain of states that do the same: %d states", len(b.Out))
	}
	if b := made(t, chain(func(s int) uint32 { return uint32(s) })); len(b.Out) != many {
		t.Errorf("P5.2: a chain of states that all tell another Out: %d states", len(b.Out))
	}
}

// P5.2, P1: a chain by class 0 whose last state alone class 1 tells apart from the others, the one or the other way round.
func TestForkedChain(t *testing.T) {
	for _, ends := range [][]int{{many, many + 1}, {many + 1, many}} {
		a := chain(func(int) uint32 { return 0 })
		for s := range a.Next {
			a.Next[s] = append(a.Next[s], ends[s/(many-1)])
		}
		a.Next = append(a.Next, []int{many + 2, many}, []int{many + 1, many + 1}, []int{many, many})
		a.Out = append(a.Out, 1, 2, 1)
		b := made(t, a)
		if len(b.Out) != many+2 {
			t.Errorf("P5.2: a forked chain: %d states, want %d", len(b.Out), many+2)
		}
	}
}

// P5.1, P5.2: ever so many classes.
func TestManyClasses(t *testing.T) {
	a := api.Auto{Next: make([][]int, 4), Out: []uint32{0, 0, 0, 1}}
	for s := range a.Next {
		a.Next[s] = make([]int, many)
	}
	a.Next[0][many-1], a.Next[1][many-1], a.Next[2][many-1] = 1, 2, 3
	b := made(t, a)
	if len(b.Out) != 4 || len(b.Next[3]) != many || b.Next[2][many-1] != 3 {
		t.Errorf("P5.2: %d classes: %d states", many, len(b.Out))
	}
}
