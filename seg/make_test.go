package seg_test

import (
	"runtime/debug"
	"slices"
	"strings"
	"testing"

	"stanza/api"
	"stanza/seg"
)

func set(classes ...int) api.Expr {
	e := api.Expr{Op: api.ESet}
	for _, c := range classes {
		e.Set |= 1 << c
	}
	return e
}

func of(op api.ExprOp, kids ...api.Expr) api.Expr { return api.Expr{Op: op, Kids: kids} }
func row(n int, e api.Expr) api.Expr              { return of(api.ESeq, slices.Repeat([]api.Expr{e}, n)...) }

// ruled tells rules over so many classes, each by its two sides.
func ruled(classes int, sides ...[2]api.Expr) api.Rules {
	r := api.Rules{Classes: make([]string, classes)}
	for c := range classes {
		r.Treat = append(r.Treat, c)
	}
	for _, s := range sides {
		r.List = append(r.List, api.Rule{Does: api.Must, Left: s[0], Right: s[1]})
	}
	return r
}

func makes(t *testing.T, r api.Rules) *seg.Machine {
	t.Helper()
	m, e := seg.Make(r)
	if e != api.OK || m == nil {
		t.Fatalf("P6.1: %d classes, %d rules: error %d", len(r.Classes), len(r.List), e)
	}
	return m
}

func refuses(t *testing.T, want api.Errno, r api.Rules) {
	t.Helper()
	m, e := seg.Make(r)
	if e != want {
		t.Errorf("P6.1: %d classes, %d rules: error %d, want %d", len(r.Classes), len(r.List), e, want)
	}
	if e != api.OK && m != nil {
		t.Errorf("R3: beside error %d there is a machine", e)
	}
}

func refusesText(t *testing.T, text string, code api.Errno, at int) {
	t.Helper()
	m, f := seg.Read(text)
	if want := (api.Fault{Code: code, At: at}); f != want {
		t.Errorf("P6.1: %q: fault %v, want %v", text, f, want)
	}
	if f.Code != api.OK && m != nil {
		t.Errorf("R3: beside fault %v there is a machine", f)
	}
}

var (
	none = api.Expr{}
	// Behind it 512 states: which of the last nine were 0. The other way round it has but few.
	wide = of(api.ESeq, set(0), row(8, set(0, 1)))
	thin = of(api.ESeq, row(8, set(0, 1)), set(0))
)

// P6.1: there are classes, else ErrName, whatever else is wrong.
func TestNoClasses(t *testing.T) {
	refuses(t, api.ErrName, api.Rules{})
	refuses(t, api.ErrName, api.Rules{Classes: []string{}, Treat: []int{0}, Join: 1, After: 1})
	refuses(t, api.ErrName, ruled(0, [2]api.Expr{row(201, set(0)), wide}))
	refuses(t, api.ErrName, ruled(0, slices.Repeat([][2]api.Expr{{none, none}}, 25)...))
	refuses(t, api.ErrName, api.Rules{Classes: []string{"A", "B"}[:0]})
}

// P6.1: the errors of the Lefts.
func TestLeftErrors(t *testing.T) {
	refuses(t, api.ErrRange, ruled(25))
	refuses(t, api.ErrRange, ruled(1000, [2]api.Expr{none, none}))
	makes(t, ruled(24, slices.Repeat([][2]api.Expr{{set(0), set(23)}}, 24)...))
	refuses(t, api.ErrRange, ruled(24, slices.Repeat([][2]api.Expr{{set(0), set(23)}}, 25)...))
	makes(t, ruled(2, [2]api.Expr{row(200, set(0)), none}))
	refuses(t, api.ErrPlaces, ruled(2, [2]api.Expr{row(201, set(0)), none}))
	refuses(t, api.ErrPlaces, ruled(2, [2]api.Expr{row(200, set(0)), none}, [2]api.Expr{set(), none}))
	makes(t, ruled(2, [2]api.Expr{thin, none}))
	refuses(t, api.ErrStates, ruled(2, [2]api.Expr{wide, none}))
	refuses(t, api.ErrStates, ruled(2, [2]api.Expr{none, none}, [2]api.Expr{wide, none}))
}

// P6.1: the errors of the turned Rights.
func TestRightErrors(t *testing.T) {
	makes(t, ruled(2, [2]api.Expr{row(200, set(0)), row(200, set(0))}))
	refuses(t, api.ErrPlaces, ruled(2, [2]api.Expr{none, row(201, set(0))}))
	refuses(t, api.ErrPlaces, ruled(2, [2]api.Expr{none, set()}, [2]api.Expr{none, row(200, set(0))}))
	makes(t, ruled(2, [2]api.Expr{none, wide}))
	refuses(t, api.ErrStates, ruled(2, [2]api.Expr{none, thin}))
	refuses(t, api.ErrStates, ruled(2, [2]api.Expr{none, none}, [2]api.Expr{none, thin}))
	// There are too many states only of the Rights that are not turned: no error.
	makes(t, ruled(2, [2]api.Expr{thin, wide}))
}

// P6.1, R2: of several errors the first one.
func TestFirstError(t *testing.T) {
	places := row(201, set(0))
	refuses(t, api.ErrStates, ruled(2, [2]api.Expr{wide, places}))
	refuses(t, api.ErrPlaces, ruled(2, [2]api.Expr{places, thin}))
	refuses(t, api.ErrStates, ruled(2, [2]api.Expr{none, places}, [2]api.Expr{wide, none}))
	refuses(t, api.ErrPlaces, ruled(2, [2]api.Expr{none, thin}, [2]api.Expr{places, none}))
	refuses(t, api.ErrRange, ruled(25, [2]api.Expr{wide, places}))
	refuses(t, api.ErrPlaces, ruled(2, [2]api.Expr{none, thin}, [2]api.Expr{none, places}))
}

// P6.1: at most 300 states, of either side.
func TestManyStates(t *testing.T) {
	ab, c := strings.Repeat("[A B]", 7), func(n int) string { return strings.Repeat("C ", n) }
	head := "class A B C; "
	for _, x := range []struct {
		text        string
		left, right int
	}{
		{"keep A" + ab + "/; may " + c(44) + "/;", 300, 1},
		{"keep / " + ab + "A; may /" + c(44) + ";", 1, 300},
	} {
		m := machine(t, head+x.text)
		if l, r := m.States(); l != x.left || r != x.right {
			t.Errorf("P6.1: %q: %d and %d states, want %d and %d", x.text, l, r, x.left, x.right)
		}
	}
	refusesText(t, head+"keep A"+ab+"/; may "+c(45)+"/;", api.ErrStates, 0)
	refusesText(t, head+"keep / "+ab+"A; may /"+c(45)+";", api.ErrStates, 0)
	machine(t, head+"keep "+ab+ab+"A / A"+ab+ab+"; may / "+c(45)+"; may "+c(45)+"/;")
}

// P6.1: Read: the text's fault with its place, then Make's at 0.
func TestReadFaults(t *testing.T) {
	refusesText(t, "class A; !", api.ErrToken, 9)
	refusesText(t, "keep /", api.ErrParse, 6)
	refusesText(t, "class A; what;", api.ErrParse, 9)
	refusesText(t, "keep A / A;", api.ErrName, 5)
	refusesText(t, "class A A;", api.ErrTwice, 8)
	refusesText(t, strings.Repeat(" ", 4097), api.ErrMany, 4096)
	refusesText(t, "class A; keep "+strings.Repeat("(", 17), api.ErrDeep, 30)
	refusesText(t, "class A; keep "+strings.Repeat(".", 201)+"/;", api.ErrPlaces, 214)
	refusesText(t, "class A; "+strings.Repeat("may/;", 25), api.ErrMany, 129)
	for _, text := range []string{"", " ", "# class A;", "class ;", "set S = ;", "join / ;", "keep / ;", " \n must . / [^];"} {
		refusesText(t, text, api.ErrName, 0)
	}
	states := "class A B; keep A" + strings.Repeat(".", 8)
	refusesText(t, states+"/;", api.ErrStates, 0)
	refusesText(t, "class A B; may A / B; keep / "+strings.Repeat(".", 8)+"A;", api.ErrStates, 0)
	// The text's fault is ahead of Make's.
	refusesText(t, states+"/; keep", api.ErrParse, len(states)+7)
	refusesText(t, "keep / ; !", api.ErrToken, 9)
}

// P6.1: how many classes, and how many states the least automata have.
func TestClassesAndStates(t *testing.T) {
	for _, x := range []struct {
		text                 string
		classes, left, right int
	}{
		{"class A;", 1, 1, 1},
		{"class A B; class C; set S = A B; join A / B; treat A = C;", 3, 1, 1},
		{"class A; keep / ;", 1, 1, 1},
		{"class A; keep A / A;", 1, 2, 2},
		{"class A B; keep A / B;", 2, 2, 2},
		{"class A B; keep A B A / ;", 2, 4, 1},
		{"class A B; keep / A B A;", 2, 1, 4},
		{"class A; keep A A / A A A;", 1, 3, 4},
		{"class A B C; keep A / ; may B / ;", 3, 3, 1},
		{"class A B C; keep A / B; may A / C;", 3, 2, 3},
		{"class A B C; keep A / C; may B / C;", 3, 3, 2}, // both rules' Rights end together
		// Which of the last three were A; and of the last but three, whether there are so many, and the last one is.
		{"class A B; keep A . . / ;", 2, 8, 1},
		{"class A B; keep . . A / ;", 2, 4, 1},
		{"class A B; keep / . . A;", 2, 1, 8},
		{"class A B; keep / A . .;", 2, 1, 4},
		// These have more states ahead of being made least.
		{"class A B; keep .* / .*;", 2, 1, 1},
		{"class A B; keep A A* / A* A;", 2, 2, 2},
		{"class A B; keep (A|B) / (A A|A B);", 2, 2, 3},
		{"class A B; keep A A* | B B* / ;", 2, 2, 1},
		{"class A B; keep / A* B* | .;", 2, 1, 1},
		{"class A B; keep A [] / [] A;", 2, 1, 1},
		{"class A B; keep A . [] / ; may / [] . A;", 2, 1, 1},
		{"class a b c d e f g h i j k l m n o p q r s t u v w x; keep x / x;", 24, 2, 2},
	} {
		m := machine(t, x.text)
		l, r := m.States()
		if n := m.Classes(); n != x.classes || l != x.left || r != x.right {
			t.Errorf("P6.1: %q: %d classes, %d and %d states, want %d, %d and %d", x.text, n, l, r, x.classes, x.left, x.right)
		}
	}
}

// R7: a nil machine answers as one that holds nothing; so does one that nobody made.
func TestNilMachine(t *testing.T) {
	for _, m := range []*seg.Machine{nil, {}} {
		if n := m.Classes(); n != 0 {
			t.Errorf("R7: %d classes", n)
		}
		if l, r := m.States(); l != 0 || r != 0 {
			t.Errorf("R7: %d and %d states", l, r)
		}
		for n := range 5 {
			for _, class := range []int{0, 1, -1, 23, 99} {
				want := append(make([]api.Opp, n), api.Must)
				if got := m.Run(slices.Repeat([]int{class}, n)); !slices.Equal(got, want) {
					t.Errorf("P6.2: a nil machine: %v, want %v", got, want)
				}
			}
		}
		if got := m.Run(nil); !slices.Equal(got, []api.Opp{api.Must}) {
			t.Errorf("P6.2: a nil machine, of no thing: %v", got)
		}
	}
}

// P1: expressions as deep as they like.
func TestDeepSides(t *testing.T) {
	defer debug.SetMaxStack(debug.SetMaxStack(1 << 20))
	deep := set(0)
	for range 100000 {
		deep = of(api.ESeq, deep)
	}
	m := makes(t, ruled(1, [2]api.Expr{deep, deep}))
	if got := m.Run([]int{0, 0}); !slices.Equal(got, []api.Opp{api.Keep, api.Must, api.Must}) {
		t.Errorf("P6.2: deep sides: %v", got)
	}
}

// P1: of too many places no more than these are looked at, though one list stands for ever so many.
func TestEndlessPlaces(t *testing.T) {
	many := set(0)
	for range 60 {
		many = of(api.EAlt, many, many)
	}
	refuses(t, api.ErrPlaces, ruled(1, [2]api.Expr{many, none}))
	refuses(t, api.ErrPlaces, ruled(1, [2]api.Expr{none, many}))
	refuses(t, api.ErrStates, ruled(2, [2]api.Expr{wide, many}))
}

// P1: of rules that no text says nothing is promised but that calls end, and don't panic.
func TestUnfitRules(t *testing.T) {
	fit := ruled(3, [2]api.Expr{set(0), set(1)}, [2]api.Expr{of(99, set(0)), of(api.EPlus)}, [2]api.Expr{set(0, 31), of(api.EStar)})
	for _, treat := range [][]int{nil, {}, {1}, {2, 2}, {-1, 3, 99}, {1 << 40, -1 << 63, 1<<63 - 1}, {0, 1, 2, 3, 4}} {
		for _, bits := range []uint32{0, 1, 1 << 31, 1<<32 - 1} {
			r := fit
			r.Treat, r.Join, r.After = treat, bits, 1<<32-1-bits/3
			m := makes(t, r)
			for _, classes := range [][]int{nil, {0}, {0, 1, 2, 0, 1, 2}, {-1, 3, 31, 32, 1, 1}} {
				got := m.Run(classes)
				if len(got) != len(classes)+1 || got[len(classes)] != api.Must || len(classes) > 0 && got[0] != api.Keep {
					t.Errorf("P6.2: %v of unfit rules: %v", classes, got)
				}
			}
		}
	}
	// What a rule does is told as it stands there.
	fit.List[0].Does = api.Hyphen
	if got := makes(t, fit).Run([]int{0, 1}); !slices.Equal(got, []api.Opp{api.Keep, api.Hyphen, api.Must}) {
		t.Errorf("P6.2: a rule that does %d: %v", api.Hyphen, got)
	}
}
