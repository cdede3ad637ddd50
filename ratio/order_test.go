package ratio_test

import (
	"cmp"
	"math"
	"slices"
	"testing"

	"stanza/ratio"
)

// order holds Order against what is wanted, and turned round too.
func order(t *testing.T, a, b float64, want int) {
	t.Helper()
	if got := ratio.Order(a, b); got != want {
		t.Errorf("P12.2: Order(%v, %v) is %d, want %d", a, b, got, want)
	}
	if got := ratio.Order(b, a); got != -want {
		t.Errorf("P12.2: turned round: Order(%v, %v) is %d, want %d", b, a, got, -want)
	}
}

// P12.2: each number beside each other one, -0 ahead of 0.
func TestOrderNumbers(t *testing.T) {
	l := rising()
	for i, a := range l {
		for k, b := range l {
			order(t, a, b, cmp.Compare(i, k))
		}
	}
	order(t, zero, 0, -1)
	order(t, zero, zero, 0)
	order(t, 0, 0, 0)
	order(t, -least, zero, -1)
	order(t, 0, least, -1)
	order(t, -1, -1, 0)
	order(t, -2, -1, -1)
}

// P12.2: what is no number is ahead of all, two such are alike, whatever their bits.
func TestOrderNone(t *testing.T) {
	for _, a := range nones() {
		for _, b := range nones() {
			order(t, a, b, 0)
		}
		for _, b := range rising() {
			order(t, a, b, -1)
		}
	}
}

// P12.2: numbers beside one another.
func TestOrderBeside(t *testing.T) {
	for _, r := range rising() {
		if r != inf {
			order(t, r, math.Nextafter(r, inf), -1)
		}
		if r != -inf {
			order(t, r, math.Nextafter(r, -inf), 1)
		}
		order(t, r, r, 0)
	}
}

// P12.2: numbers sorted by Order rise.
func TestOrderSorts(t *testing.T) {
	d := dice(2)
	want := edges()
	for range 200 {
		got := slices.Clone(want)
		for i := range got {
			k := d.roll(i + 1)
			got[i], got[k] = got[k], got[i]
		}
		slices.SortFunc(got, ratio.Order)
		if !slices.EqualFunc(got, want, alike) {
			t.Fatalf("P12.2: sorted: %v", got)
		}
	}
}

// first holds Greatest against what is wanted.
func first(t *testing.T, want int, l ...float64) {
	t.Helper()
	if got := ratio.Greatest(l); got != want {
		t.Errorf("P12.2: Greatest(%v) is %d, want %d", l, got, want)
	}
}

// P12.2: none, one, several, the first of like ones, what is no number, the two zeros either way round.
func TestGreatest(t *testing.T) {
	first(t, -1)
	if ratio.Greatest(nil) != -1 || ratio.Greatest([]float64{}) != -1 {
		t.Error("P12.2, R5: Greatest of none")
	}
	for _, r := range edges() {
		first(t, 0, r)
		first(t, 0, r, r)
		first(t, 0, r, r, r)
	}
	first(t, 2, 1, 2, 3)
	first(t, 0, 3, 2, 1)
	first(t, 1, 1, 3, 2)
	first(t, 1, 1, 3, 3)
	first(t, 1, 1, 3, 2, 3, 1)
	first(t, 1, -2, -1, -3)
	first(t, 1, zero, 0)
	first(t, 0, 0, zero)
	first(t, 2, -1, zero, 0, zero, 0)
	first(t, 1, none, -inf)
	first(t, 0, -inf, none)
	first(t, 0, none, none, none)
	first(t, 2, none, none, -1, none, -1)
	first(t, 1, 1, inf, none, inf, greatest)
}

// P12.2: of what is no number the first one, whatever their bits.
func TestGreatestNone(t *testing.T) {
	l := nones()
	first(t, 0, l...)
	slices.Reverse(l)
	first(t, 0, l...)
	first(t, len(l), append(l, -inf)...)
}

// P12.2: all lists of up to five of some edges, held against their places in a rising list.
func TestGreatestAllShort(t *testing.T) {
	kinds := []float64{none, -inf, -1, zero, 0, least, inf}
	places := [][]int{{}}
	for from := 0; from < len(places); from++ {
		var l []float64
		for _, k := range places[from] {
			l = append(l, kinds[k])
		}
		want := -1
		if len(l) > 0 {
			want = slices.Index(places[from], slices.Max(places[from]))
		}
		first(t, want, l...)
		if len(l) == 5 {
			continue
		}
		for k := range kinds {
			places = append(places, append(slices.Clone(places[from]), k))
		}
	}
}

// P12.2: the greatest one at each place of a long list.
func TestGreatestLong(t *testing.T) {
	l := make([]float64, 1000)
	for i := range l {
		l[i] = -1
	}
	for i := range l {
		l[i] = below(-0.5)
		first(t, i, l...)
		l[i] = -1
	}
}
