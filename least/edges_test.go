package least_test

import (
	"math"
	"testing"

	"stanza/api"
	"stanza/least"
)

func refuses(t *testing.T, why string, a api.Auto) {
	t.Helper()
	if least.Check(a) {
		t.Errorf("P5.1: %s: it is taken", why)
	}
	b, e := least.Make(a)
	if e != api.ErrRange {
		t.Errorf("P5.2: %s: error %d, want %d", why, e, api.ErrRange)
	}
	if e != api.OK && (b.Next != nil || b.Out != nil) {
		t.Errorf("R3: %s: beside an error: %v", why, b)
	}
}

// P5.1: a state at least.
func TestNoState(t *testing.T) {
	refuses(t, "nothing", api.Auto{})
	refuses(t, "empty lists", api.Auto{Next: [][]int{}, Out: []uint32{}})
	refuses(t, "no state, but Out", api.Auto{Out: []uint32{1}})
}

// P5.1: as many Out as Next.
func TestOutAndNext(t *testing.T) {
	for n := range 6 {
		for m := range 6 {
			a := api.Auto{Out: make([]uint32, m)}
			for range n {
				a.Next = append(a.Next, []int{0, 0})
			}
			if n == m && n > 0 {
				made(t, a)
			} else {
				refuses(t, "as many Out as Next", a)
			}
		}
	}
	refuses(t, "Out in spare room", api.Auto{Next: [][]int{{0}, {0}}, Out: []uint32{1, 2}[:1]})
	refuses(t, "Next in spare room", api.Auto{Next: [][]int{{0}, {0}}[:1], Out: []uint32{1, 2}})
	refuses(t, "a state without Out, and no class", api.Auto{Next: [][]int{nil}})
}

// P5.1: each state with as many ways as the first one.
func TestAsManyWays(t *testing.T) {
	for first := range 4 {
		for other := range 4 {
			for at := 1; at < 4; at++ {
				a := api.Auto{Next: make([][]int, 4), Out: make([]uint32, 4)}
				for s := range a.Next {
					a.Next[s] = make([]int, first, 8)
				}
				a.Next[at] = make([]int, other, 8)
				if first == other {
					made(t, a)
				} else {
					refuses(t, "as many ways as the first one", a)
				}
			}
		}
	}
	refuses(t, "two states with one way too many", api.Auto{Next: [][]int{{0}, {0, 0}, {0, 0}}, Out: make([]uint32, 3)})
}

// P5.1: each way to a state.
func TestWaysToStates(t *testing.T) {
	for _, to := range []int{-1, -2, 3, 4, 256, 1 << 31, 1<<32 + 1, 1 << 62, math.MaxInt, math.MinInt, math.MinInt + 1} {
		for s := range 3 {
			for c := range 2 {
				a := read("0,1>0 1,2>1 2,0>2")
				a.Next[s][c] = to
				refuses(t, "a way to no state", a)
			}
		}
	}
	for to := range 3 {
		a := read("0,1>0 1,2>1 2,0>2")
		a.Next[1][0], a.Next[2][1] = to, 2-to
		made(t, a)
	}
	// A fault is one where nobody comes, too.
	refuses(t, "a way to no state, never come to", read("0,0>0 0,0>1 0,3>2"))
	refuses(t, "too many ways, never come to", read("0,0>0 0,0>1 0,0,0>2"))
	refuses(t, "one state, a way to another", read("1>0"))
}

// P5.1, P5.2: no class.
func TestNoClass(t *testing.T) {
	made(t, api.Auto{Next: [][]int{nil}, Out: []uint32{0}})
	made(t, api.Auto{Next: [][]int{nil, {}, nil}, Out: []uint32{1, 2, 1}})
	makes(t, ">4 >4", ">4")
	makes(t, ">1 >2 >3", ">1")
}

// P5.1: what fits together is an automaton, whatever it tells, and how many classes and states it has.
func TestManyMore(t *testing.T) {
	a := api.Auto{Next: make([][]int, 400), Out: make([]uint32, 400)}
	for s := range a.Next {
		a.Next[s] = make([]int, 30)
		a.Next[s][29] = (s + 1) % 400
		a.Out[s] = math.MaxUint32 - uint32(s)
	}
	if b := made(t, a); show(b) != show(a) {
		t.Errorf("P5.2: 400 states that all differ, by 30 classes: %s", show(b))
	}
}
