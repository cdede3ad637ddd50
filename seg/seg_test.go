package seg_test

import (
	"math"
	"slices"
	"strings"
	"testing"

	"stanza/api"
	"stanza/rules"
	"stanza/seg"
)

// signs are how tests write what may be done at a boundary, by its number.
const signs = "- !h"

func machine(t *testing.T, text string) *seg.Machine {
	t.Helper()
	m, f := seg.Read(text)
	if f != (api.Fault{}) || m == nil {
		t.Fatalf("P6.1: %q: fault %v", text, f)
	}
	return m
}

// show writes what may be done at each boundary, and the things between.
func show(things string, opps []api.Opp) string {
	var b strings.Builder
	for i, opp := range opps {
		b.WriteByte(signs[opp])
		if i < len(things) {
			b.WriteByte(things[i])
		}
	}
	return b.String()
}

// runs holds what Run answers of rules whose classes have names of one letter. Each row is written with what may be done at its boundaries: Keep -, May a blank, Must !.
func runs(t *testing.T, text string, rows ...string) {
	t.Helper()
	m := machine(t, text)
	r, _ := rules.Parse(text)
	for _, want := range rows {
		var things string
		var classes []int
		for i := 1; i < len(want); i += 2 {
			things += want[i : i+1]
			classes = append(classes, slices.Index(r.Classes, want[i:i+1]))
		}
		if got := show(things, m.Run(classes)); got != want {
			t.Errorf("P6.2: %q: %q, want %q", text, got, want)
		}
	}
}

// P6.2: the chapter's examples.
func TestExamples(t *testing.T) {
	runs(t, "class A B; keep A / B;", "-A-B A!")
	runs(t, "class X J; join J / X;", "-J X-J-J X!")
}

// P6.2: no thing, and one alone, whatever the rules say.
func TestNoThingAndOne(t *testing.T) {
	for _, text := range []string{
		"class A;", "class A; keep /;", "class A; may /;", "class A; must /;", "class A; must / A; must A /;",
		"class A; join A / A;", "class A B; treat A = B; join A / B; keep . / ;",
	} {
		runs(t, text, "!", "-A!")
	}
}

// P6.2: what each kind of rules does; without one: May.
func TestDoes(t *testing.T) {
	runs(t, "class A B;", "-A A B A!")
	runs(t, "class A B; keep A / B;", "-A-B!", "-B A!", "-A A!", "-B B!", "-B A-B B A-B!")
	runs(t, "class A B; may A / B;", "-A B!", "-B A!")
	runs(t, "class A B; must A / B;", "-A!B!", "-B A!", "-A A!B B!")
	runs(t, "class A B; keep . / .;", "-A-A-B-B-A!")
	runs(t, "class A B; must . / .;", "-A!A!B!B!A!")
	runs(t, "class A B C; keep A / [B C]; must [^A] / [^A];", "-A-B!C A-C!C A A-B!")
}

// P6.2: the first rule that matches.
func TestFirstRule(t *testing.T) {
	runs(t, "class A B; keep A / .; must . / B; may . / .;", "-A-B!B A-A-B!")
	runs(t, "class A B; must . / B; keep A / .; may . / .;", "-A!B!B A-A!B!")
	runs(t, "class A B; may A / B; must A / .; keep . / .;", "-A B-A!A B-B!")
	runs(t, "class A; keep A A / ; must A / ;", "-A!A-A-A!")
	runs(t, "class A; must A / A A; keep A / A;", "-A!A!A-A!")
	// A rule of which but one side matches is none.
	runs(t, "class A B; keep A / A; keep B / B; must . / .;", "-A!B!A-A!B-B!")
	// Left of one and Right of another are no rule.
	runs(t, "class A B C D; keep A / B; must C / D;", "-A D C B A-B C!D!")
	var text strings.Builder
	text.WriteString("class A B; ")
	for range 23 {
		text.WriteString("keep B / B; ")
	}
	runs(t, text.String()+"must A / A;", "-A!A B-B A!A!")
	runs(t, text.String(), "-A A B-B A A!")
}

// P6.2: a Left or Right that says the empty row matches everywhere.
func TestEmptySides(t *testing.T) {
	runs(t, "class A B; keep / ;", "-A-B-A!")
	runs(t, "class A B; must / ;", "-A!B!A!")
	runs(t, "class A B; keep A / ;", "-A-B A-A-B!")
	runs(t, "class A B; keep / A;", "-A B-A-A B!")
	runs(t, "class A B; must A | / B;", "-A!B A!B!B!")
	runs(t, "class A B; must A / B | ;", "-A!B A!A!B!")
	runs(t, "class A B; must A* / (B?);", "-A!B!A!")
	// A set of no class says no row at all.
	runs(t, "class A; must [] / ; must / []; must [] A / ; must / A [];", "-A A A!")
	runs(t, "class A; must []* / ; keep / ;", "-A!A!A!")
	runs(t, "class A; must []+ / ; keep / ;", "-A-A-A!")
}

// P6.2: rules that look far to the left: those ahead end with a row of Left.
func TestFarLeft(t *testing.T) {
	runs(t, "class A B C; must A B C / ;", "-A B C!A B B C A A B C!A B C!")
	runs(t, "class A B; must A B B A / ;", "-A B B A!B B A!A!")
	runs(t, "class A B C; must A B* / C;", "-A B B B B!C B C A!C C!")
	runs(t, "class A B C; must C A . . . / ;", "-A A A A C A A A B!A!", "-C A A A A!A A!", "-C A C A C!A B!A B!")
	// An odd number of them behind a B.
	runs(t, "class A B; must B (A A)* A / ; keep A / A;", "-B A!A-A!A-A!B!", "-A-A-A B A!A B!")
}

// P6.2: rules that look far to the right: those behind begin with a row of Right.
func TestFarRight(t *testing.T) {
	runs(t, "class A B C; must / A B C;", "-C!A B C A B!A B C!A B C!")
	runs(t, "class A B C; must / A B C;", "-A B C!")
	runs(t, "class A B; must / A B B A;", "-B!A B B!A B B A!")
	runs(t, "class A B C; must A / B* C;", "-A!B B B B C B C A!C C A B!")
	runs(t, "class A B C; must / . . . A C;", "-A A!B A A A C!A B A A C!")
	runs(t, "class A B; must / (A A)* B;", "-A A!A A!A A!B!", "-B A!A A!B A A!")
}

// P6.2: rules that look far to both sides.
func TestFarBoth(t *testing.T) {
	runs(t, "class A B C; must A B* / B* C;", "-A!B!B!B!C B C A B B A!C!", "-B B C!", "-A B B!")
	runs(t, "class A B; must A . . / . . A;", "-A B B!B B A!", "-A A A!A A A!", "-A A A!B!A A A!", "-B A A A A A!")
	// From one end of the row to the other.
	runs(t, "class A B; must B A* / A* B;", "-B!A!A!A!A!B!", "-B A A A A A!", "-A A A A A B!", "-A B!A!A!B!A!B A!")
}

// P6.2: things that join.
func TestJoins(t *testing.T) {
	// The first one doesn't, and isn't in After: so the second one doesn't join it either.
	runs(t, "class X J; join J / X;", "-J!", "-J J!", "-J J X!", "-X-J!", "-X-J-J-J X X-J!")
	// They are in Join and in After: the first one doesn't join, the others do.
	runs(t, "class X J; join J / X J;", "-J-J-J X-J-J X!")
	runs(t, "class A; join A / A;", "-A-A-A-A!")
	runs(t, "class J K; join J K / K;", "-J J K-J-K-K-J!", "-K-J-J-K!", "-J K-J!")
	// Ahead of what isn't in After, they don't.
	runs(t, "class X Y J; join J / X;", "-Y J J X-J-J Y J X-J!")
	// One that joins is passed over: the last one that doesn't is what counts, though the joining one is in After or not.
	runs(t, "class X Y J K; join J K / X K;", "-X-J-K-J Y K-J-J Y J K-K!", "-X-K-J Y K-J!")
	// None in Join, or none in After.
	runs(t, "class X J; join / X J;", "-X J J!")
	runs(t, "class X J; join X J / ;", "-X J J!")
	// Join and After are of all join lines together.
	runs(t, "class X Y J K; join J / X; join K / Y;", "-X-J-K Y-J-K!")
	// Keep ahead of one that joins, whatever the rules say; behind the last one Must, though it joins.
	runs(t, "class X J; join J / X; must / ;", "-X-J-J!X-J!", "-J!J!X-J!")
}

// P6.2: things that join are not there for the rules.
func TestJoinsAndRules(t *testing.T) {
	runs(t, "class A B J; join J / A B; must A / B;", "-A-J-J!B-J A!B A-J A-J!B!")
	runs(t, "class A B J; join J / A; must A A / B B;", "-A-J A-J-J!B B!", "-A A-J!B B!", "-A A B J B!")
	// One that doesn't join is there.
	runs(t, "class A B J; join J / A; must B J / ; keep J / ;", "-B J!A-J B!", "-J-A-J-J B!", "-B J!J-B!")
	runs(t, "class X J; join J / X; must J / .; keep X / J;", "-J!J!X-J-J X!")
}

// P6.2: as what things are taken.
func TestTreat(t *testing.T) {
	runs(t, "class A B C; treat B = A; must A / A; keep B / ;", "-A!B!A!B!B C A!")
	runs(t, "class A B C; treat B = A; treat A = B; must A / ; keep C / ;", "-A B!A C-B!")
	// What a class is taken as isn't taken as something else again.
	runs(t, "class A B C; treat A = B; treat B = C; must B / ; keep C / ;", "-A!A!B-C-A!B-B!")
	// The last treat line counts.
	runs(t, "class A B C; treat A = B; treat A = C; must B / ; keep C / ;", "-A-B!A-C!")
	runs(t, "class A B; treat A = B; treat A = A; must A / ;", "-A!B A!B!")
	// Far to both sides.
	runs(t, "class A B C D; treat D = B; must A B* / B* C;", "-A!D!B!D!C D A!C!")
}

// P6.2: whether a thing joins is told by its class; by Treat only what the rules say of it.
func TestTreatAndJoins(t *testing.T) {
	// J is taken as A: it still joins. X is taken as J: it doesn't.
	runs(t, "class A X J; treat J = A; treat X = J; join J / A; must A / A; keep J / J;", "-X-X A-J!A X-X J!A!")
	// After is of classes too: B, that is taken as A, isn't in it.
	runs(t, "class A B J; treat B = A; join J / A; must J / ; keep A / ;", "-B-J!J!A-J-J-B-J!")
	// One that is taken as J is there as J.
	runs(t, "class A B J; treat B = J; join J / A; must J / ;", "-A-J B!A-J B!J!")
	// One that doesn't join is taken as its Treat says.
	runs(t, "class A B J; treat J = B; join J / A; must B / ; keep / ;", "-J!J!B!J!A-J-A!")
}

// P6.2: a number that is no class is taken as 0, in all that Run does.
func TestNoClass(t *testing.T) {
	for _, text := range []string{
		"class A B; must A / B; keep B / A;",
		"class A B J; join J / A; must A / ;",
		"class J X; join J / X; must X / ; keep J / ;",
		"class A B; treat A = B; must B / B;",
		"class A B; treat B = A; treat A = B; join A / B; must A / ;",
	} {
		m := machine(t, text)
		n := m.Classes()
		for _, c := range []int{-1, -2, n, n + 1, 24, 31, 32, 33, 64, 1 << 32, 1<<32 + 1, math.MaxInt, math.MinInt, math.MinInt + 1} {
			for _, row := range [][]int{{c}, {c, c}, {c, 0}, {c, 1}, {1, c}, {1, c, 1}, {n - 1, c, n - 1, c}, {0, c, 0}, {c, n - 1, n - 1, c, c, 1}} {
				asZero := slices.Clone(row)
				for i := range asZero {
					if asZero[i] == c {
						asZero[i] = 0
					}
				}
				if got, want := m.Run(row), m.Run(asZero); !slices.Equal(got, want) || len(got) != len(row)+1 {
					t.Errorf("P6.2: %q: %v: %v, want %v", text, row, got, want)
				}
			}
		}
	}
}

// P6.2, P1: rows of ever so many things.
func TestLongRows(t *testing.T) {
	const many = 1 << 18
	m := machine(t, "class A B J; join J / B; must A (. .)* / (. .)* A;")
	// From one end to the other: behind each thing of an odd place those ahead are even.
	row := slices.Repeat([]int{1}, many)
	row[0], row[many-1] = 0, 0
	got := m.Run(row)
	if len(got) != many+1 || got[0] != api.Keep || got[many] != api.Must {
		t.Fatalf("P6.2: %d things: %d boundaries", many, len(got))
	}
	for i := 1; i < many; i++ {
		if want := api.May + api.Opp(i%2); got[i] != want {
			t.Fatalf("P6.2: %d things: %d at %d, want %d", many, got[i], i, want)
		}
	}
	// All but one join.
	for i := range row {
		row[i] = 2
	}
	row[0] = 1
	got = m.Run(row)
	if i := slices.IndexFunc(got, func(opp api.Opp) bool { return opp != api.Keep }); i != many || got[i] != api.Must {
		t.Errorf("P6.2: %d things that join: %d at %d", many, got[i], i)
	}
}
