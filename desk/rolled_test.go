package desk_test

import (
	"slices"
	"testing"

	"stanza/api"
	"stanza/book"
	"stanza/desk"
)

// change is a change of a text of at most about so many bytes, or of the way; some are refused.
func (d *dice) change(most int) desk.Step {
	at := d.roll(most + 1)
	switch d.roll(12) {
	case 0, 1, 2:
		return turns(d.way())
	case 3:
		return turns(api.Config{Width: 1 + d.roll(9), Tab: d.roll(2) * 65})
	case 4:
		return edits(at-most, d.roll(4), d.row(1, pieces()))
	case 5:
		return edits(0, at, d.row(d.roll(most/3+1), pieces()))
	case 6:
		return edits(at, d.roll(9), "")
	}
	return edits(at, d.roll(4), d.row(1+d.roll(4), pieces()))
}

// question is one of a text of at most about so many bytes; some are refused.
func (d *dice) question(most int) desk.Step {
	if d.roll(2) == 0 {
		return asksSpot(d.roll(most+3)-1, d.roll(2) == 0)
	}
	return asksByte(d.roll(most/3+3)-1, d.roll(14)-1)
}

// script is so many steps, most of them changes.
func (d *dice) script(n, most int) []desk.Step {
	l := make([]desk.Step, n)
	for i := range l {
		if d.roll(3) == 0 {
			l[i] = d.question(most)
		} else {
			l[i] = d.change(most)
		}
	}
	return l
}

// counted counts answers of each kind: what was seen of them must be no accident.
type counted struct {
	ends  [5]int
	errs  map[api.Errno]int
	loose int
	tight int
}

func (n *counted) count(l []desk.Answer) {
	for _, a := range l {
		n.errs[a.Err]++
		for _, r := range a.Layout.Rows {
			n.ends[r.End]++
		}
		if a.Layout.Loose {
			n.loose++
		} else if len(a.Layout.Rows) > 2 {
			n.tight++
		}
	}
}

// P23.1, P8: many scripts, texts and ways, in both modes, each held against a flow that goes on, and against new ones.
func TestRolled(t *testing.T) {
	d := dice(23)
	seen := counted{errs: map[api.Errno]int{}}
	for i := range 600 {
		data := []api.Data{simple(), rich()}[i%2]
		text := d.row(d.roll(12), pieces())
		seen.count(run(t, data, d.way(), text, d.script(d.roll(api.MaxSteps+1), len(text)+3)...))
	}
	for end, n := range seen.ends {
		if (n < 1000) != (api.Opp(end) == api.Keep) {
			t.Errorf("%d ends of %d", n, end)
		}
	}
	for _, err := range []api.Errno{api.OK, api.ErrEdit, api.ErrConfig, api.ErrRange} {
		if seen.errs[err] < 500 {
			t.Errorf("%d errors of %d", seen.errs[err], err)
		}
	}
	if seen.loose < 500 || seen.tight < 500 {
		t.Errorf("%d loose, %d not", seen.loose, seen.tight)
	}
}

// P23.1: a script's beginning answers what the whole one answers first; with a step behind it that is none, it answers nothing.
func TestBeginnings(t *testing.T) {
	d := dice(5)
	for i := range 20 {
		data, c, text := []api.Data{simple(), rich()}[i%2], d.way(), d.row(6, pieces())
		steps := d.script(api.MaxSteps, 30)
		whole := run(t, data, c, text, steps...)
		for n := range steps {
			if l, f := desk.Run(data, c, []byte(text), steps[:n]); f != (api.Fault{}) || !alike(l, whole[:n]) {
				t.Fatalf("P23.1: %q by %v: the first %d steps of %v: %v, want %v", text, c, n, steps, l, whole[:n])
			}
			refused(t, "a step that is none behind others", data, c, []byte(text), slices.Concat(steps[:n], []desk.Step{{Do: 4 + n}}), api.Fault{Code: api.ErrScript, At: n})
		}
	}
}

// refusal is a change that is refused, of any text.
func (d *dice) refusal() desk.Step {
	return []desk.Step{edits(-1, 0, "a\n"), edits(0, api.MaxText+1, ""), edits(0, 0, string(make([]byte, api.MaxText+1))), turns(api.Config{Width: 3})}[d.roll(4)]
}

// spread puts up to three more steps ahead of each step, and tells which are those that were there.
func (d *dice) spread(steps []desk.Step, more func() desk.Step) (all []desk.Step, own []bool) {
	for _, s := range steps {
		for range d.roll(4) {
			all, own = append(all, more()), append(own, false)
		}
		all, own = append(all, s), append(own, true)
	}
	return all, own
}

// P23.1, P8: questions, and changes that are refused, put between others change no answer of those, and no layout.
func TestBetween(t *testing.T) {
	d := dice(8)
	for i := range 150 {
		data, c, text := []api.Data{simple(), rich()}[i%2], d.way(), d.row(6, pieces())
		steps := d.script(api.MaxSteps/4, 30)
		want := run(t, data, c, text, steps...)
		more := func() desk.Step { return d.question(30) }
		if i%3 == 0 {
			more = d.refusal
		}
		all, own := d.spread(steps, more)
		had := layoutOf(t, data, c, text)
		for at, got := range run(t, data, c, text, all...) {
			wanted := desk.Answer{Err: got.Err, Spot: got.Spot, At: got.At, Layout: had}
			if own[at] {
				wanted, want = want[0], want[1:]
				had = wanted.Layout
			}
			if !same(got, wanted) {
				t.Fatalf("P23.1, P8: %q by %v: %v of %v: %v, want %v", text, c, all[at], all, got, wanted)
			}
		}
	}
}

// layoutOf is the book's layout of a text.
func layoutOf(t *testing.T, d api.Data, c api.Config, text string) api.Layout {
	t.Helper()
	b, f := book.New(d)
	l, e := b.Lay([]byte(text), c)
	if f != (api.Fault{}) || e != api.OK {
		t.Fatalf("P20.1, P20.3: fault %v, error %d", f, e)
	}
	return l
}

// P8: a script that begins with the text and the way as another one left them goes on as that one does.
func TestGoesOn(t *testing.T) {
	d := dice(11)
	for i := range 60 {
		data, c, text := []api.Data{simple(), rich()}[i%2], d.way(), d.row(6, pieces())
		steps := d.script(api.MaxSteps, 30)
		whole := run(t, data, c, text, steps...)
		b, _ := book.New(data)
		x := &anew{t, b, c, text}
		for at, s := range steps {
			if d.roll(8) == 0 {
				if l := run(t, data, x.way, x.text, steps[at:]...); !alike(l, whole[at:]) {
					t.Fatalf("P8: %q by %v: from step %d on: %v, want %v", text, c, at, l, whole[at:])
				}
			}
			x.do(s)
		}
	}
}

// P8: changes of a text by which it comes to be what another one is: as the other one is laid out.
func TestSameText(t *testing.T) {
	d := dice(13)
	for i := range 200 {
		data, c, other := []api.Data{simple(), rich()}[i%2], d.way(), d.way()
		text, want := d.row(6, pieces()), d.row(6, pieces())
		first, second := desk.Step{Edit: api.Edit{Del: len(text), Ins: []byte(want)}}, turns(c)
		if d.roll(2) == 0 {
			first, second = second, first
		}
		l := run(t, data, other, text, first, second, edits(0, len(want), text), edits(0, len(text), want))
		for _, at := range []int{1, 3} {
			if !same(l[at], desk.Answer{Layout: layoutOf(t, data, c, want)}) {
				t.Fatalf("P8: %q from %q by %v from %v: %v", want, text, c, other, l)
			}
		}
	}
}

// fuzzed is a script that bytes say: each step by six of them.
func fuzzed(told []byte) []desk.Step {
	var l []desk.Step
	for ; len(told) >= 6; told = told[6:] {
		a, b := int(int8(told[1])), int(int8(told[2]))
		s := desk.Step{Do: int(told[0]%32) - 1, At: a, Back: b%2 == 0, Spot: api.Spot{Row: a, Col: b}}
		s.Edit = api.Edit{At: a, Del: b, Ins: []byte(pieces()[int(told[3])%len(pieces())])}
		s.Config = api.Config{Width: a, Tab: int(told[4]) % 10, Mode: api.Mode(told[5] % 3), Hyphen: int(told[4]) * 100, Pair: int(told[5]) * 1000, Loose: looses[int(told[3])%len(looses)]}
		if s.Do > 3 {
			s.Do %= 4
		}
		l = append(l, s)
	}
	return l
}

func FuzzRun(f *testing.F) {
	f.Add(rich().MarkRules, rich().BreakRules, rich().Patterns, byte(3), byte(0), []byte("ab cd\ne\xe6\x97"), []byte("\x01\x02\x01\x00\x00\x00\x02\x05\x00\x03\x04\x01\x03\x02\x02\x00\x00\x00\x04\x01\x01\x00\x00\x00"))
	f.Add(simple().MarkRules, simple().BreakRules, "", byte(9), byte(1), []byte("a table b\n\u65e5"), []byte("\x05\xff\x01\x00\x00\x00\x02\x09\x00\x09\x08\x01\x01\x00\x03\x03\x00\x00\x01\x02\x02\x07\x00\x00"))
	f.Add("class A B C D E;", "class A; keep A / B;", "a", byte(1), byte(2), []byte(""), []byte("\x00\x00\x00\x00\x00\x00"))
	f.Add("", "class A B C D E F; must A / B;", "a--b", byte(0), byte(1), []byte("\x01"), []byte("\x01\x00\x00\x00\x00\x00"))
	f.Fuzz(func(t *testing.T, marks, breaks, patterns string, width, mode byte, text, steps []byte) {
		d := rich()
		d.MarkRules, d.BreakRules, d.Patterns = marks, breaks, patterns
		c := api.Config{Width: int(width), Tab: 4, Mode: api.Mode(mode), Loose: 1}
		script := fuzzed(steps)
		b, want := book.New(d)
		switch {
		case len(script) > api.MaxSteps:
			want = api.Fault{Code: api.ErrScript, At: api.MaxSteps}
		case b == nil:
		case c.Width < 1 || c.Mode > api.Best:
			want = api.Fault{Code: api.ErrConfig}
		case len(text) > api.MaxText:
			want = api.Fault{Code: api.ErrText}
		default:
			holds(t, d, c, string(text), script)
			return
		}
		refused(t, "what is fuzzed", d, c, text, script, want)
	})
}
