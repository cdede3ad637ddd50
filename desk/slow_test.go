package desk_test

import (
	"slices"
	"testing"

	"stanza/api"
	"stanza/book"
	"stanza/desk"
	"stanza/flow"
	"stanza/span"
)

// The tests of this package hold scripts against two slow ones: one does the steps one by one on a flow of its own, the other one keeps nothing but a text and a way, and lays out behind each step from the beginning on.

// slow is what steps are done on.
type slow interface {
	do(s desk.Step) (desk.Answer, bool)
	layout() api.Layout
}

// goes is a flow that goes on.
type goes struct{ *flow.Flow }

func (g goes) do(s desk.Step) (a desk.Answer, ok bool) {
	switch s.Do {
	case 0:
		a.Err = g.Edit(s.Edit)
	case 1:
		a.Err = g.Turn(s.Config)
	case 2:
		a.Spot, a.Err = g.Spot(s.At, s.Back)
	case 3:
		a.At, a.Err = g.Byte(s.Spot)
	default:
		return a, false
	}
	return a, true
}

func (g goes) layout() api.Layout { return g.Layout() }

// anew is a text and a way as they are now.
type anew struct {
	*testing.T
	book *book.Book
	way  api.Config
	text string
}

// flow is a new one.
func (n *anew) flow() *flow.Flow {
	n.Helper()
	f, e := flow.New(n.book, n.way, []byte(n.text))
	if e != api.OK {
		n.Fatalf("P21.1: %q by %v: error %d", n.text, n.way, e)
	}
	return f
}

// edit is a change, with no sum that may be beyond an int.
func (n *anew) edit(e api.Edit) api.Errno {
	if e.At < 0 || e.Del < 0 || e.At > len(n.text) || e.Del > len(n.text)-e.At {
		return api.ErrEdit
	}
	text := n.text[:e.At] + string(e.Ins) + n.text[e.At+e.Del:]
	if len(text) > api.MaxText {
		return api.ErrText
	}
	n.text = text
	return api.OK
}

func (n *anew) do(s desk.Step) (a desk.Answer, ok bool) {
	n.Helper()
	switch s.Do {
	case 0:
		a.Err = n.edit(s.Edit)
	case 1:
		if a.Err = api.ErrConfig; span.Check(s.Config) {
			a.Err, n.way = api.OK, s.Config
		}
	case 2:
		a.Spot, a.Err = n.flow().Spot(s.At, s.Back)
	case 3:
		a.At, a.Err = n.flow().Byte(s.Spot)
	default:
		return a, false
	}
	return a, true
}

func (n *anew) layout() api.Layout {
	n.Helper()
	l, e := n.book.Lay([]byte(n.text), n.way)
	if e != api.OK {
		n.Fatalf("P20.3: %q by %v: error %d", n.text, n.way, e)
	}
	return l
}

// slowly answers a script by doing its steps one by one.
func slowly(x slow, steps []desk.Step) ([]desk.Answer, api.Fault) {
	var l []desk.Answer
	for i, s := range steps {
		a, ok := x.do(s)
		if !ok {
			return nil, api.Fault{Code: api.ErrScript, At: i}
		}
		a.Layout = x.layout()
		l = append(l, a)
	}
	return l, api.Fault{}
}

func same(a, b desk.Answer) bool {
	return a.Err == b.Err && a.Spot == b.Spot && a.At == b.At && a.Layout.Loose == b.Layout.Loose && slices.Equal(a.Layout.Rows, b.Layout.Rows)
}

// alike tells whether answers are the same.
func alike(a, b []desk.Answer) bool { return slices.EqualFunc(a, b, same) }

// holds holds what Run answers of a script, whose data, way and text are right, against the two slow ones.
func holds(t *testing.T, d api.Data, c api.Config, text string, steps []desk.Step) ([]desk.Answer, api.Fault) {
	t.Helper()
	got, fault := desk.Run(d, c, []byte(text), steps)
	b, f := book.New(d)
	if f != (api.Fault{}) {
		t.Fatalf("P20.1: fault %v", f)
	}
	x := &anew{t, b, c, text}
	for _, from := range []slow{goes{x.flow()}, x} {
		want, f := slowly(from, steps)
		if fault != f {
			t.Fatalf("P23.1: %q by %v, steps %v: fault %v, want %v", text, c, steps, fault, f)
		}
		if !alike(got, want) {
			t.Fatalf("P23.1, P8: %q by %v, steps %v: %v, want %v", text, c, steps, got, want)
		}
	}
	return got, fault
}

// run is a script that is right; its answers are held.
func run(t *testing.T, d api.Data, c api.Config, text string, steps ...desk.Step) []desk.Answer {
	t.Helper()
	l, f := holds(t, d, c, text, steps)
	if f != (api.Fault{}) || len(l) != len(steps) {
		t.Fatalf("P23.1: %q by %v: %d answers of %d steps, fault %v", text, c, len(l), len(steps), f)
	}
	return l
}

// refused holds that there is a fault, and no answers.
func refused(t *testing.T, what string, d api.Data, c api.Config, text []byte, steps []desk.Step, want api.Fault) {
	t.Helper()
	if l, f := desk.Run(d, c, text, steps); f != want || len(l) != 0 {
		t.Errorf("P23.1, R2, R3: %s: %d answers, fault %v, want %v", what, len(l), f, want)
	}
}

// answer is what an answer should be that isn't loose: its rows as told writes them, of the text as it is then.
type answer struct {
	err  api.Errno
	spot api.Spot
	at   int
	text string
	rows []string
}

func is(t *testing.T, a desk.Answer, want answer) {
	t.Helper()
	if a.Err != want.err || a.Spot != want.spot || a.At != want.at {
		t.Errorf("P23.1: error %d, spot %v, place %d, want %v", a.Err, a.Spot, a.At, want)
	}
	if got := told(want.text, a.Layout.Rows); a.Layout.Loose || !slices.Equal(got, want.rows) {
		t.Errorf("P23.1: rows %q, %v, want %q", got, a.Layout.Loose, want.rows)
	}
}
