package rules_test

import (
	"bytes"
	"strings"
	"testing"

	"stanza/api"
	"stanza/rules"
)

// The tests of this file hold Parse against a slow reader of another make: it goes through the text's pieces one by one, and keeps what it awaits as a state and a pile of open brackets.

// frame is a bracket ( that is open, or a rule's side: its rows so far, and the last one's things.
type frame struct {
	rows   []api.Expr
	things []api.Expr
	often  bool // may *, + or ? stand here?
}

type slow struct {
	state          string
	out            api.Rules
	sets           map[string]uint32
	fresh          string // the set that is being declared
	bits           uint32
	not            bool
	first          int // the class that is treated
	does           api.Opp
	pile           []frame
	left           api.Expr
	right          bool
	places         int
	code           api.Errno
	class, isThere bool
}

func (s *slow) all() uint32 { return 1<<len(s.out.Classes) - 1 }

func (s *slow) look(name string) uint32 {
	for i, c := range s.out.Classes {
		if c == name {
			s.isThere, s.class, s.first = true, true, i
			return 1 << i
		}
	}
	bits, ok := s.sets[name]
	s.isThere, s.class = ok, false
	return bits
}

// known tells a name's classes; ErrName, if it has none.
func (s *slow) known(name string) uint32 {
	bits := s.look(name)
	if !s.isThere {
		s.code = api.ErrName
	}
	return bits
}

func (s *slow) begin(p string) {
	switch p {
	case "class", "set", "join", "treat":
		s.state, s.bits = p, 0
	case "keep", "may", "must":
		s.does = map[string]api.Opp{"keep": api.Keep, "may": api.May, "must": api.Must}[p]
		s.state, s.right, s.pile = "rule", false, []frame{{}}
		if len(s.out.List) >= 24 {
			s.code = api.ErrMany
		}
	default:
		s.code = api.ErrParse
	}
}

func (s *slow) closeFrame() api.Expr {
	f := s.pile[len(s.pile)-1]
	s.pile = s.pile[:len(s.pile)-1]
	f.rows = append(f.rows, rowOf(f.things))
	if len(f.rows) == 1 {
		return f.rows[0]
	}
	return api.Expr{Op: api.EAlt, Kids: f.rows}
}

func rowOf(things []api.Expr) api.Expr {
	switch len(things) {
	case 0:
		return api.Expr{}
	case 1:
		return things[0]
	}
	return api.Expr{Op: api.ESeq, Kids: things}
}

func (s *slow) put(e api.Expr) {
	f := &s.pile[len(s.pile)-1]
	f.things = append(f.things, e)
	f.often = true
}

func (s *slow) rule(p string, name bool) {
	f := &s.pile[len(s.pile)-1]
	often := f.often
	f.often = false
	if name || p == "." || p == "[" {
		s.places++
		if s.places > 200 {
			s.code = api.ErrPlaces
			return
		}
	}
	switch {
	case name:
		s.put(api.Expr{Op: api.ESet, Set: s.known(p)})
	case p == ".":
		s.put(api.Expr{Op: api.ESet, Set: s.all()})
	case p == "[":
		s.state, s.bits, s.not = "[", 0, false
	case p == "(":
		s.pile = append(s.pile, frame{})
		if len(s.pile) > 17 {
			s.code = api.ErrDeep
		}
	case p == ")" && len(s.pile) > 1:
		s.put(s.closeFrame())
	case p == "|":
		f.rows = append(f.rows, rowOf(f.things))
		f.things = nil
	case often && strings.Contains("*+?", p):
		op := map[string]api.ExprOp{"*": api.EStar, "+": api.EPlus, "?": api.EOpt}[p]
		f.things[len(f.things)-1] = api.Expr{Op: op, Kids: []api.Expr{f.things[len(f.things)-1]}}
	case p == "/" && len(s.pile) == 1 && !s.right:
		s.left, s.right = s.closeFrame(), true
		s.pile = []frame{{}}
	case p == ";" && len(s.pile) == 1 && s.right:
		s.out.List = append(s.out.List, api.Rule{Does: s.does, Left: s.left, Right: s.closeFrame()})
		s.state = ""
	default:
		s.code = api.ErrParse
	}
}

func (s *slow) set(p string, name bool) {
	switch {
	case s.state == "set" && name:
		if s.look(p); s.isThere {
			s.code = api.ErrTwice
		}
		s.fresh, s.state = p, "set="
	case s.state == "set=" && p == "=":
		s.state = "set of"
	case s.state == "set of" && name:
		s.bits |= s.known(p)
	case s.state == "set of" && p == ";":
		s.sets[s.fresh], s.state = s.bits, ""
	default:
		s.code = api.ErrParse
	}
}

func (s *slow) treat(p string, name bool) {
	was := s.first
	if name && (s.state == "treat" || s.state == "treat as") {
		if s.look(p); !s.isThere || !s.class {
			s.code = api.ErrName
			return
		}
	}
	switch {
	case s.state == "treat" && name:
		s.state = "treat="
	case s.state == "treat=" && p == "=":
		s.state = "treat as"
	case s.state == "treat as" && name:
		s.out.Treat[was], s.state = s.first, "treat;"
	case s.state == "treat;" && p == ";":
		s.state = ""
	default:
		s.code = api.ErrParse
	}
}

func (s *slow) step(p string, name bool) {
	switch {
	case s.state == "":
		s.begin(p)
	case s.state == "class" && name:
		if s.look(p); s.isThere {
			s.code = api.ErrTwice
		} else if len(s.out.Classes) == 24 {
			s.code = api.ErrMany
		}
		s.out.Treat = append(s.out.Treat, len(s.out.Classes))
		s.out.Classes = append(s.out.Classes, p)
	case strings.HasPrefix(s.state, "set"):
		s.set(p, name)
	case strings.HasPrefix(s.state, "treat"):
		s.treat(p, name)
	case s.state == "join" && name:
		s.out.Join |= s.known(p)
	case s.state == "join" && p == "/":
		s.state = "after"
	case s.state == "after" && name:
		s.out.After |= s.known(p)
	case s.state == "rule":
		s.rule(p, name)
	case s.state == "[" && p == "^":
		s.not, s.state = true, "[^"
	case s.state[0] == '[' && name:
		s.bits |= s.known(p)
		s.state = "[^"
	case s.state[0] == '[' && p == "]":
		if s.not {
			s.bits = s.all() &^ s.bits
		}
		s.put(api.Expr{Op: api.ESet, Set: s.bits})
		s.state = "rule"
	case (s.state == "class" || s.state == "after") && p == ";":
		s.state = ""
	default:
		s.code = api.ErrParse
	}
}

func slowParse(text string) (api.Rules, api.Fault) {
	if len(text) > 4096 {
		return api.Rules{}, at(api.ErrMany, 4096)
	}
	const letters = "abcdefghijklmnopqrstuvwxyzABCDEFGHIJKLMNOPQRSTUVWXYZ0123456789_"
	s := &slow{sets: map[string]uint32{}}
	for i := 0; i < len(text); {
		c := text[i]
		n := 1
		switch {
		case strings.IndexByte(" \t\n\r", c) >= 0:
		case c == '#':
			n = strings.IndexByte(text[i:]+"\n", '\n')
		case strings.IndexByte(letters, c) >= 0:
			n = len(text[i:]) - len(strings.TrimLeft(text[i:], letters))
			s.step(text[i:i+n], true)
		case strings.IndexByte("()[]^|*+?.;/=", c) >= 0:
			s.step(text[i:i+1], false)
		default:
			s.code = api.ErrToken
		}
		if s.code != api.OK {
			return api.Rules{}, at(s.code, i)
		}
		i += n
	}
	if s.state != "" {
		return api.Rules{}, at(api.ErrParse, len(text))
	}
	return s.out, api.Fault{}
}

func holdAgainst(t *testing.T, text string) api.Fault {
	t.Helper()
	got, f := rules.Parse(text)
	want, wantFault := slowParse(text)
	if f != wantFault {
		t.Fatalf("P3.1: %q: fault %v, want %v", text, f, wantFault)
	}
	if !sameRules(got, want) {
		t.Fatalf("P3.1, P3.2: %q: %v, want %v", text, got, want)
	}
	return f
}

// dice gives numbers from 0 up to below n, the same ones at each run.
type dice uint64

func (d *dice) roll(n int) int {
	*d = *d*6364136223846793005 + 1442695040888963407
	return int(uint64(*d)>>33) % n
}

func (d *dice) pick(words ...string) string { return words[d.roll(len(words))] }

func (d *dice) blank() string {
	return d.pick("", " ", " ", " ", "\n", "\t", "\r\n", "#!;\n", " # keep\n ")
}

func (d *dice) name() string {
	return d.pick("A", "B", "C", "A", "B", "C", "D", "S", "T", "keep", "class", "a1_", "X")
}

func (d *dice) names() string {
	var b strings.Builder
	for range d.roll(4) {
		b.WriteString(" " + d.name() + d.blank())
	}
	return b.String()
}

func (d *dice) either(deep int) string {
	var b strings.Builder
	for i := range 1 + d.roll(8)/5 {
		if i > 0 {
			b.WriteString("|" + d.blank())
		}
		for range d.roll(4) {
			b.WriteString(d.thing(deep) + d.pick("", "", "", "*", "+", "?") + d.blank())
		}
	}
	return b.String()
}

func (d *dice) thing(deep int) string {
	switch k := d.roll(10); {
	case k < 5 || deep == 0 && k > 7:
		return " " + d.name()
	case k == 5:
		return "."
	case k == 6:
		return "[" + d.blank() + d.names() + "]"
	case k == 7:
		return "[" + d.blank() + "^" + d.names() + "]"
	}
	return "(" + d.blank() + d.either(deep-1) + ")"
}

func (d *dice) line() string {
	switch d.roll(9) {
	case 0:
		return "class" + d.names() + ";"
	case 1:
		return "set " + d.name() + d.blank() + "=" + d.names() + d.blank() + ";"
	case 2:
		return "join" + d.names() + "/" + d.names() + ";"
	case 3:
		return "treat " + d.name() + "=" + d.name() + d.blank() + ";"
	}
	return d.pick("keep ", "may\t", "must#\n") + d.either(4) + "/" + d.either(4) + ";"
}

// text has lines, of which the first ones declare most names, so that a good deal of them is right.
func (d *dice) text() string {
	var b strings.Builder
	b.WriteString(d.pick("class A B C;set S=A B;", "class A B C D keep class; set S = A; set T=S; class a1_ X;", "class keep A; class X C B;", ""))
	for range d.roll(6) {
		b.WriteString(d.blank() + d.line())
	}
	return b.String()
}

// TestAgainstSlow: texts that are right, or nearly so, and the same with a few bytes put in, left out or changed.
func TestAgainstSlow(t *testing.T) {
	d := dice(3)
	seen := map[api.Errno]int{}
	signs := "()[]^|*+?.;/=AB_ #\n!\x00\xff"
	for range 40000 {
		text := d.text()
		seen[holdAgainst(t, text).Code]++
		b := []byte(text)
		for range d.roll(4) {
			i, j := d.roll(len(b)+1), d.roll(len(b)+1)
			switch c := signs[d.roll(len(signs))]; {
			case d.roll(2) == 0 || len(b) == 0:
				b = append(b[:i:i], append([]byte{c}, b[i:]...)...)
			case i < j:
				b = append(b[:i:i], b[min(j, i+3):]...)
			case i < len(b):
				b[i] = c
			}
		}
		seen[holdAgainst(t, string(b)).Code]++
	}
	for _, code := range []api.Errno{api.OK, api.ErrToken, api.ErrParse, api.ErrName, api.ErrTwice} {
		if seen[code] < 500 {
			t.Errorf("too few texts with %d: %v", code, seen)
		}
	}
}

// TestLimitsAgainstSlow: texts that come near the limits, of pieces drawn at will.
func TestLimitsAgainstSlow(t *testing.T) {
	d := dice(5)
	seen := map[api.Errno]int{}
	for range 4000 {
		text := "class " + many("c", " ", 20+d.roll(6)) + ";" + strings.Repeat("keep/;", 19+d.roll(6)) + "may " +
			strings.Repeat("c1 .", 94+d.roll(9)) + strings.Repeat("(", 11+d.roll(7)) + d.pick("c2", "[c0]", "[^", "x", "()", "!", "") +
			d.pick("x", ".", "(", "*", ")", "")
		seen[holdAgainst(t, text).Code]++
	}
	for _, code := range []api.Errno{api.ErrToken, api.ErrParse, api.ErrName, api.ErrMany, api.ErrDeep, api.ErrPlaces} {
		if seen[code] < 20 {
			t.Errorf("too few texts with %d: %v", code, seen)
		}
	}
}

// TestAnyBytes (P1): no text makes Parse panic or not end.
func TestAnyBytes(t *testing.T) {
	d := dice(7)
	for n := range 3000 {
		b := make([]byte, n%200)
		for i := range b {
			b[i] = byte(d.roll(256))
		}
		holdAgainst(t, string(b))
		holdAgainst(t, "class A;keep A"+string(b))
	}
	for c := range 256 {
		for _, n := range []int{1, 2, 17, 201, 4096, 4097, 100000} {
			holdAgainst(t, string(bytes.Repeat([]byte{byte(c)}, n)))
			holdAgainst(t, "class A;keep "+string(bytes.Repeat([]byte{byte(c)}, n)))
		}
	}
}

func FuzzParse(f *testing.F) {
	f.Add("class A B; set S = A B; keep A / B | S*; may . / .;")
	f.Add("class A; join A / A; treat A = A; must ([^A]+ | () )? / A*; # end")
	d := dice(9)
	for range 20 {
		f.Add(d.text())
	}
	f.Fuzz(func(t *testing.T, text string) { holdAgainst(t, text) })
}
