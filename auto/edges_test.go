package auto_test

import (
	"math"
	"slices"
	"testing"

	"stanza/api"
)

// row is so many things of one kind, one behind the other.
func row(n int, e api.Expr) api.Expr { return seq(slices.Repeat([]api.Expr{e}, n)...) }

// P4.1: classes are from 1 to 24.
func TestClasses(t *testing.T) {
	for _, n := range []int{0, -1, 25, 26, 32, 64, 1 << 40, math.MaxInt, math.MinInt} {
		refuses(t, api.ErrRange, n)
		refuses(t, api.ErrRange, n, set(0))
	}
	for n := 1; n <= 24; n++ {
		a := made(t, n, set(n-1))
		if len(a.Next) != 2 || len(a.Next[0]) != n || len(a.Next[1]) != n {
			t.Fatalf("P4.1: %d classes: %v", n, a)
		}
		if a.Next[0][n-1] != 1 || a.Next[1][n-1] != 1 || n > 1 && a.Next[1][n-2] != 0 {
			t.Errorf("P4.1: the last of %d classes: %v", n, a)
		}
	}
}

// P4.1: at most 24 expressions.
func TestManyExpressions(t *testing.T) {
	l := slices.Repeat([]api.Expr{set(0)}, 24)
	makes(t, "1>0 1>16777215", 1, l...)
	refuses(t, api.ErrRange, 1, append(l, set(0))...)
	refuses(t, api.ErrRange, 1, slices.Repeat([]api.Expr{none()}, 1000)...)
}

// P4.1: at most 200 places, of all expressions together.
func TestManyPlaces(t *testing.T) {
	a := set(0)
	x := made(t, 1, row(200, a))
	if len(x.Out) != 201 || x.Out[199] != 0 || x.Out[200] != 1 || x.Next[199][0] != 200 || x.Next[200][0] != 200 {
		t.Errorf("P4.1: 200 places: %v", x)
	}
	refuses(t, api.ErrPlaces, 1, row(201, a))
	makes(t, "1>0 1>1", 1, alt(slices.Repeat([]api.Expr{a}, 200)...))
	refuses(t, api.ErrPlaces, 1, alt(slices.Repeat([]api.Expr{a}, 201)...))
	// Places of all kinds of expressions, and of all of them, are counted; sets of no class too.
	full := []api.Expr{row(100, set()), star(alt(row(30, a), row(30, a))), opt(plus(row(39, a)))}
	made(t, 1, append(full, a)...)
	refuses(t, api.ErrPlaces, 1, append(full, a, a)...)
	refuses(t, api.ErrPlaces, 1, append(full, seq(a, set()))...)
	refuses(t, api.ErrPlaces, 1, append(full, star(plus(opt(alt(set(), seq(set(31)))))))...)
}

// windows has 256 states, by the classes 0 and 1: which of the last eight were 0; and n by class 2: how many of these came last.
func windows(n int) []api.Expr {
	return []api.Expr{seq(set(0), row(7, set(0, 1))), row(n, set(2))}
}

// P4.1: at most 300 states.
func TestManyStates(t *testing.T) {
	x := made(t, 3, windows(44)...)
	if len(x.Out) != 300 || len(x.Next) != 300 {
		t.Fatalf("P4.1: %d states, want 300", len(x.Out))
	}
	if same := slowMake(windows(44), 3); show(x) != show(same) {
		t.Errorf("P4.1: 300 states: %s, want %s", show(x), show(same))
	}
	refuses(t, api.ErrStates, 3, windows(45)...)
	refuses(t, api.ErrStates, 3, windows(100)...)
	// States that no class leads to are none.
	makes(t, "0>0", 1, seq(set(1), row(20, set(1, 2))))
	refuses(t, api.ErrStates, 2, seq(set(0), row(199, set(0, 1))))
	refuses(t, api.ErrStates, 24, seq(set(23), row(8, set(23, 0))))
	if n := len(made(t, 2, seq(set(0), row(7, set(0, 1)))).Out); n != 256 {
		t.Errorf("P4.1: %d states, want 256", n)
	}
}

// R2: of several errors the first one.
func TestFirstError(t *testing.T) {
	places, states := row(201, set(0)), seq(set(0), row(20, set(0, 1)))
	refuses(t, api.ErrRange, 0, places)
	refuses(t, api.ErrRange, 25, states)
	refuses(t, api.ErrRange, 2, slices.Repeat([]api.Expr{places}, 25)...)
	refuses(t, api.ErrRange, 2, slices.Repeat([]api.Expr{states}, 25)...)
	refuses(t, api.ErrPlaces, 2, states, places)
	refuses(t, api.ErrPlaces, 2, seq(set(0), row(200, set(0, 1))))
	refuses(t, api.ErrStates, 2, states)
}
