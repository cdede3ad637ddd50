package rules_test

import (
	"strconv"
	"strings"
	"testing"

	"stanza/api"
	"stanza/rules"
)

func none() api.Expr                  { return api.Expr{Op: api.ENone} }
func set(bits uint32) api.Expr        { return api.Expr{Op: api.ESet, Set: bits} }
func seq(kids ...api.Expr) api.Expr   { return api.Expr{Op: api.ESeq, Kids: kids} }
func alt(kids ...api.Expr) api.Expr   { return api.Expr{Op: api.EAlt, Kids: kids} }
func star(kid api.Expr) api.Expr      { return api.Expr{Op: api.EStar, Kids: []api.Expr{kid}} }
func plus(kid api.Expr) api.Expr      { return api.Expr{Op: api.EPlus, Kids: []api.Expr{kid}} }
func opt(kid api.Expr) api.Expr       { return api.Expr{Op: api.EOpt, Kids: []api.Expr{kid}} }
func names(words string) []string     { return strings.Fields(words) }
func at(e api.Errno, n int) api.Fault { return api.Fault{Code: e, At: n} }

// many is a text's piece, so many times, each with its number behind it.
func many(word, behind string, n int) string {
	var b strings.Builder
	for i := range n {
		b.WriteString(word + strconv.Itoa(i) + behind)
	}
	return b.String()
}

// sameExpr holds expressions against each other; a list that is nil is one that is empty (R5).
func sameExpr(a, b api.Expr) bool {
	if a.Op != b.Op || a.Set != b.Set || len(a.Kids) != len(b.Kids) {
		return false
	}
	for i := range a.Kids {
		if !sameExpr(a.Kids[i], b.Kids[i]) {
			return false
		}
	}
	return true
}

func sameRules(a, b api.Rules) bool {
	if a.Join != b.Join || a.After != b.After || len(a.Classes) != len(b.Classes) || len(a.Treat) != len(b.Treat) || len(a.List) != len(b.List) {
		return false
	}
	for i := range a.Classes {
		if a.Classes[i] != b.Classes[i] {
			return false
		}
	}
	for i := range a.Treat {
		if a.Treat[i] != b.Treat[i] {
			return false
		}
	}
	for i := range a.List {
		if a.List[i].Does != b.List[i].Does || !sameExpr(a.List[i].Left, b.List[i].Left) || !sameExpr(a.List[i].Right, b.List[i].Right) {
			return false
		}
	}
	return true
}

// good reads a text that has no fault.
func good(t *testing.T, text string) api.Rules {
	t.Helper()
	r, f := rules.Parse(text)
	if f != (api.Fault{}) {
		t.Fatalf("P3.1: %.80q: fault %v, want none", text, f)
	}
	return r
}

// bad reads a text that has this fault: every other result is zero (R3).
func bad(t *testing.T, text string, want api.Fault) {
	t.Helper()
	r, f := rules.Parse(text)
	if f != want {
		t.Errorf("P3.1: %.80q: fault %v, want %v", text, f, want)
	}
	if !sameRules(r, api.Rules{}) {
		t.Errorf("R3: %.80q: rules beside a fault: %v", text, r)
	}
}

func TestChapterExamples(t *testing.T) {
	got := good(t, "class A B; set S = A B; keep A / B | S*; may . / .;")
	want := api.Rules{Classes: names("A B"), Treat: []int{0, 1}, List: []api.Rule{
		{Does: api.Keep, Left: set(1), Right: alt(set(2), star(set(3)))},
		{Does: api.May, Left: set(3), Right: set(3)},
	}}
	if !sameRules(got, want) {
		t.Errorf("P3.1, P3.2: %v, want %v", got, want)
	}
	bad(t, "keep A / A;", at(api.ErrName, 5))
	bad(t, "class A A;", at(api.ErrTwice, 8))
	bad(t, "keep /", at(api.ErrParse, 6))
}

// P3.1: what each kind of line says.
func TestLines(t *testing.T) {
	keepAll := func(left, right api.Expr) []api.Rule {
		return []api.Rule{{Does: api.Keep, Left: left, Right: right}}
	}
	for text, want := range map[string]api.Rules{
		"":                            {},
		" \t\r\n":                     {},
		"# remark":                    {},
		"class;":                      {},
		"class A;":                    {Classes: names("A"), Treat: []int{0}},
		"class A B; class; class C;":  {Classes: names("A B C"), Treat: []int{0, 1, 2}},
		"class a Z 0 9 _ a0_Z 12 __;": {Classes: names("a Z 0 9 _ a0_Z 12 __"), Treat: []int{0, 1, 2, 3, 4, 5, 6, 7}},
		"class A a;":                  {Classes: names("A a"), Treat: []int{0, 1}},
		"set S =;":                    {},
		"join/;":                      {},
		"join /;join / ;":             {},
		"class A B C; join A / B;":    {Classes: names("A B C"), Join: 1, After: 2, Treat: []int{0, 1, 2}},
		"class A B C; join A B / ;":   {Classes: names("A B C"), Join: 3, Treat: []int{0, 1, 2}},
		"class A B C; join / B C;":    {Classes: names("A B C"), After: 6, Treat: []int{0, 1, 2}},
		"class A B C D; join A / C; join B A / D A; join / ;": {Classes: names("A B C D"), Join: 3, After: 13, Treat: []int{0, 1, 2, 3}},
		"class A B C; set S = A C; join S / S B;":             {Classes: names("A B C"), Join: 5, After: 7, Treat: []int{0, 1, 2}},
		"class A B; treat A = B;":                             {Classes: names("A B"), Treat: []int{1, 1}},
		"class A B; treat B = B;":                             {Classes: names("A B"), Treat: []int{0, 1}},
		"class A B C; treat A = B; treat B = C;":              {Classes: names("A B C"), Treat: []int{1, 2, 2}},
		"class A B C; treat A = B; treat A = C; class D;":     {Classes: names("A B C D"), Treat: []int{2, 1, 2, 3}},
		"class A B C; treat C = A; treat C = C;":              {Classes: names("A B C"), Treat: []int{0, 1, 2}},
		"keep/;":                                              {List: keepAll(none(), none())},
		"class A; may A /; must / A; keep A / A; may /;": {Classes: names("A"), Treat: []int{0}, List: []api.Rule{
			{Does: api.May, Left: set(1), Right: none()},
			{Does: api.Must, Left: none(), Right: set(1)},
			{Does: api.Keep, Left: set(1), Right: set(1)},
			{Does: api.May, Left: none(), Right: none()},
		}},
		"class A; set S = A A; keep S / A; class B; set T = S B; keep T / S;": {Classes: names("A B"), Treat: []int{0, 1}, List: []api.Rule{
			{Does: api.Keep, Left: set(1), Right: set(1)},
			{Does: api.Keep, Left: set(3), Right: set(1)},
		}},
	} {
		if got := good(t, text); !sameRules(got, want) {
			t.Errorf("P3.1: %q: %v, want %v", text, got, want)
		}
	}
}

// P3.1: the seven words have their meaning where a line begins; elsewhere they are names.
func TestWordsAsNames(t *testing.T) {
	got := good(t, "class class set join; class treat keep may; set must = class set; "+
		"join join must / treat; treat treat = keep; treat keep = class; keep keep may* / [^must keep]; must must / may;")
	want := api.Rules{
		Classes: names("class set join treat keep may"), Join: 7, After: 8, Treat: []int{0, 1, 2, 4, 0, 5},
		List: []api.Rule{
			{Does: api.Keep, Left: seq(set(16), star(set(32))), Right: set(4 + 8 + 32)},
			{Does: api.Must, Left: set(3), Right: set(32)},
		},
	}
	if !sameRules(got, want) {
		t.Errorf("P3.1: %v, want %v", got, want)
	}
	bad(t, "class class class;", at(api.ErrTwice, 12))
	bad(t, "class A; A / A;", at(api.ErrParse, 9))
	bad(t, "keep keep / ;", at(api.ErrName, 5))
	bad(t, "Class A;", at(api.ErrParse, 0))
	bad(t, "classA;", at(api.ErrParse, 0))
	bad(t, "clas s A;", at(api.ErrParse, 0))
}

// P3.2: what is written, as an expression; on the left and on the right.
func TestExpressions(t *testing.T) {
	a, b, c := set(1), set(2), set(4)
	for text, want := range map[string]api.Expr{
		"":                 none(),
		"A":                a,
		"C":                c,
		"S":                set(5),
		"E":                set(0),
		".":                set(7),
		"[]":               set(0),
		"[A]":              a,
		"[A A]":            a,
		"[A C]":            set(5),
		"[S B]":            set(7),
		"[E]":              set(0),
		"[^]":              set(7),
		"[^B]":             set(5),
		"[^S]":             b,
		"[^A S B]":         set(0),
		"[^E]":             set(7),
		"A B":              seq(a, b),
		"A B C A":          seq(a, b, c, a),
		". [A] S":          seq(set(7), a, set(5)),
		"A*":               star(a),
		"A+":               plus(a),
		"A?":               opt(a),
		"S* .+ [A]? [^A]*": seq(star(set(5)), plus(set(7)), opt(a), star(set(6))),
		"A B*":             seq(a, star(b)),
		"A* B":             seq(star(a), b),
		"|":                alt(none(), none()),
		"||":               alt(none(), none(), none()),
		"A|":               alt(a, none()),
		"|A":               alt(none(), a),
		"A|B":              alt(a, b),
		"A|B|C":            alt(a, b, c),
		"A B|C*|":          alt(seq(a, b), star(c), none()),
		"()":               none(),
		"()*":              star(none()),
		"() ()":            seq(none(), none()),
		"(A)":              a,
		"((A))":            a,
		"(A)+":             plus(a),
		"(A*)?":            opt(star(a)),
		"((A*)+)?":         opt(plus(star(a))),
		"(A B)":            seq(a, b),
		"(A B) C":          seq(seq(a, b), c),
		"A (B C)":          seq(a, seq(b, c)),
		"(A|B)":            alt(a, b),
		"(A|B)|C":          alt(alt(a, b), c),
		"A|(B|C)":          alt(a, alt(b, c)),
		"(A|B)* C":         seq(star(alt(a, b)), c),
		"(A|B C?)+|(|A)":   alt(plus(alt(a, seq(b, opt(c)))), alt(none(), a)),
		"(|)":              alt(none(), none()),
	} {
		head := "class A B C; set S = A C; set E =; "
		got := good(t, head+"keep "+text+" / B; may A / "+text+"; class D; must D/.;")
		left := api.Rules{Classes: names("A B C D"), Treat: []int{0, 1, 2, 3}, List: []api.Rule{
			{Does: api.Keep, Left: want, Right: b},
			{Does: api.May, Left: a, Right: want},
			{Does: api.Must, Left: set(8), Right: set(15)},
		}}
		if !sameRules(got, left) {
			t.Errorf("P3.2: %q: %v, want %v", text, got.List, left.List)
		}
	}
}

// P3.1, P3.2: . and [^ ] are of the classes declared ahead, not of those behind.
func TestClassesAhead(t *testing.T) {
	got := good(t, "keep . / [^]; class A; keep . / [^]; class B; keep . / [^A];")
	want := []api.Rule{
		{Left: set(0), Right: set(0)},
		{Left: set(1), Right: set(1)},
		{Left: set(3), Right: set(2)},
	}
	if !sameRules(got, api.Rules{Classes: names("A B"), Treat: []int{0, 1}, List: want}) {
		t.Errorf("P3.2: %v, want %v", got.List, want)
	}
}

// P3.1: blanks and remarks stand between any two pieces, and at both ends; they change nothing.
func TestBlanksAndRemarks(t *testing.T) {
	pieces := strings.Fields("class A B2 ; set S_ = A B2 ; join A / S_ ; treat A = B2 ; keep A * [ ^ A S_ ] + | ( . ? ) / ( | S_ ) ; must / ;")
	want := good(t, strings.Join(pieces, " "))
	if len(want.List) != 2 || len(want.Classes) != 2 || want.Join != 1 || want.After != 3 || want.Treat[0] != 1 {
		t.Fatalf("P3.1: %v", want)
	}
	for _, between := range []string{"  ", "\t", "\n", "\r", "\r\n", "#\n", "# ! keep ; #\n", "\n# a\n\t# b\n ", "#\xff\x00\r\t\xc3\n"} {
		text := between + strings.Join(pieces, between) + between
		if got := good(t, text); !sameRules(got, want) {
			t.Errorf("P3.1: %q: %v, want %v", text, got, want)
		}
		for i := range pieces {
			text := strings.Join(pieces[:i], " ") + between + strings.Join(pieces[i:], " ")
			if got := good(t, text); !sameRules(got, want) {
				t.Errorf("P3.1: %q: %v, want %v", text, got, want)
			}
		}
	}
	tight := "class A B2;set S_=A B2;join A/S_;treat A=B2;keep A*[^A S_]+|(.?)/(|S_);must/;"
	for _, text := range []string{tight, tight + "#", tight + "# keep", tight + "\n#\xff", tight + "\n"} {
		if got := good(t, text); !sameRules(got, want) {
			t.Errorf("P3.1: %q: %v, want %v", text, got, want)
		}
	}
}

// P3.1: a remark ends at byte 10 alone; a name ends at a remark and at a blank.
func TestWhereRemarksEnd(t *testing.T) {
	good(t, "class A; # x\r!")
	bad(t, "class A # x\n!;", at(api.ErrToken, 12))
	bad(t, "class A # x\r;", at(api.ErrParse, 13))
	bad(t, "class A#\nA;", at(api.ErrTwice, 9))
	bad(t, "keep / # ;", at(api.ErrParse, 10))
}
