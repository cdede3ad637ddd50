package desk_test

import (
	"bytes"
	"slices"
	"strings"
	"sync"
	"testing"

	"stanza/api"
	"stanza/desk"
)

const memoryText = "a hyphen\na\u0301 table \u65e5\n#x y"

const spare = "\u0301\x81\n\xff and more"

// memorySteps are steps of each Do; some are refused.
func memorySteps() []desk.Step {
	return []desk.Step{
		edits(2, 6, "table"), asksSpot(3, true), turns(best(5, 9)), asksByte(1, 2), edits(99, 0, "ab\nc"), edits(0, 0, "b c\n"), edits(0, 0, "b c\n"), asksSpot(99, false), turns(way(0)), edits(4, 2, ""), turns(way(3)), asksByte(0, -1),
	}
}

// room is bytes with spare room, in which something stands.
func room(text string) []byte { return append([]byte(text), spare...)[:len(text)] }

// ranges is a list with spare room, in which stand ranges that are none.
func ranges(l []api.Range) []api.Range {
	wrong := api.Range{Lo: 3, Hi: 2, To: -1}
	return append(slices.Clone(l), wrong, wrong)[:len(l)]
}

// script is all that is handed in.
type script struct {
	data  api.Data
	text  []byte
	steps []desk.Step
}

// roomy is a script with spare room wherever there may be some.
func roomy() script {
	s := script{rich(), room(memoryText), memorySteps()}
	for _, l := range s.lists() {
		*l = ranges(*l)
	}
	for i := range s.steps {
		s.steps[i].Edit.Ins = room(string(s.steps[i].Edit.Ins))
	}
	n := len(s.steps)
	s.steps = append(s.steps, edits(0, 1, "x"), desk.Step{Do: -1})[:n]
	return s
}

// lists are those of the script's data.
func (s *script) lists() []*[]api.Range {
	return []*[]api.Range{&s.data.Marks, &s.data.Breaks, &s.data.Cells, &s.data.Letters}
}

// run is the script by some way.
func (s *script) run(t *testing.T) []desk.Answer {
	t.Helper()
	l, f := desk.Run(s.data, way(6), s.text, s.steps)
	if f != (api.Fault{}) {
		t.Fatalf("P23.1: fault %v", f)
	}
	return l
}

// spoil puts a thing at all places of a list, its spare room included.
func spoil[T any](l []T, with T) {
	l = l[:cap(l)]
	for i := range l {
		l[i] = with
	}
}

// spoil spoils all that was handed in.
func (s *script) spoil() {
	for _, l := range s.lists() {
		spoil(*l, api.Range{Hi: 0x10ffff, To: 1})
	}
	spoil(s.text, '\n')
	for _, step := range s.steps {
		spoil(step.Edit.Ins, '\n')
	}
	spoil(s.steps, desk.Step{Do: -1})
}

// holdsNew holds that all that was handed in is what it was, spare room included.
func (s *script) holdsNew(t *testing.T) {
	t.Helper()
	fresh := roomy()
	for i, l := range s.lists() {
		n := len(*l) + 2
		if want := *fresh.lists()[i]; !slices.Equal((*l)[:n], want[:n]) {
			t.Errorf("R6: the list %d became %v", i, (*l)[:n])
		}
	}
	if got := s.text[:len(memoryText+spare)]; string(got) != memoryText+spare {
		t.Errorf("R6: the text became %q", got)
	}
	n := len(fresh.steps) + 2
	for i, step := range s.steps[:n] {
		if !alikeSteps(step, fresh.steps[:n][i]) {
			t.Errorf("R6: step %d became %v", i, step)
		}
	}
}

// alikeSteps tells whether two steps are the same, with what stands in the spare room of what their changes put in.
func alikeSteps(a, b desk.Step) bool {
	if len(a.Edit.Ins) != len(b.Edit.Ins) {
		return false
	}
	n := min(cap(a.Edit.Ins), cap(b.Edit.Ins), len(a.Edit.Ins)+len(spare))
	ins := bytes.Equal(a.Edit.Ins[:n], b.Edit.Ins[:n])
	return ins && a.Do == b.Do && a.Edit.At == b.Edit.At && a.Edit.Del == b.Edit.Del && a.Config == b.Config && a.At == b.At && a.Back == b.Back && a.Spot == b.Spot
}

// memoryWanted are the answers to all of it.
func memoryWanted(t *testing.T) []desk.Answer {
	t.Helper()
	l := run(t, rich(), way(6), memoryText, memorySteps()...)
	is(t, l[0], answer{text: "a table\na\u0301 table \u65e5\n#x y", rows: []string{"a ta-5", "ble\n!3", "a\u0301 ta-5", "ble \u65e5\n!6", "#x !2", "y!1"}})
	return l
}

// R6: what is handed in isn't changed, spare room included; nor is that room read.
func TestWhatIsHandedInStays(t *testing.T) {
	want, s := memoryWanted(t), roomy()
	for range 3 {
		if got := s.run(t); !alike(got, want) {
			t.Errorf("R6, R8: %v, want %v", got, want)
		}
		s.holdsNew(t)
	}
	for _, change := range []func(s *script, c *api.Config){
		func(s *script, c *api.Config) { s.steps = s.steps[:len(s.steps)+2] },
		func(s *script, c *api.Config) { s.data.Patterns = "1" },
		func(s *script, c *api.Config) { c.Width = 0 },
	} {
		s, c := roomy(), way(6)
		change(&s, &c)
		if l, f := desk.Run(s.data, c, s.text, s.steps); f.Code == api.OK || len(l) > 0 {
			t.Errorf("R3: %d answers, fault %v", len(l), f)
		}
		s.holdsNew(t)
	}
}

// R6: nothing that is handed in is kept: answers are what they were, whatever becomes of it.
func TestNothingIsKept(t *testing.T) {
	want, s := memoryWanted(t), roomy()
	got := s.run(t)
	s.spoil()
	if !alike(got, want) {
		t.Errorf("R6: behind what was spoilt: %v, want %v", got, want)
	}
	again := roomy()
	if got := again.run(t); !alike(got, want) {
		t.Errorf("R8: once more: %v, want %v", got, want)
	}
}

// R6: what is answered may be changed without anything coming of it, neither of what was handed in nor of what is asked for later.
func TestAnswersAreNew(t *testing.T) {
	want, s := memoryWanted(t), roomy()
	row := api.Row{From: -1, To: -1, Cells: -1, End: 99}
	for range 3 {
		one, other := s.run(t), s.run(t)
		for _, a := range one {
			spoil(append(a.Layout.Rows, row), row)
			spoil(a.Layout.Rows, row)
		}
		spoil(append(one, desk.Answer{}), desk.Answer{Err: 99})
		spoil(one, desk.Answer{Err: 99})
		if !alike(other, want) {
			t.Errorf("R6: spoilt with others: %v, want %v", other, want)
		}
		s.holdsNew(t)
		if got := s.run(t); !alike(got, want) {
			t.Errorf("R6: behind what was spoilt: %v, want %v", got, want)
		}
	}
}

// R6: one answer's rows may be changed, and appended to, without changing another one's, also where the layout is the same.
func TestRowsAreApart(t *testing.T) {
	row := api.Row{From: -1, To: -1, Cells: -1, End: 99}
	for _, steps := range [][]desk.Step{memorySteps(), slices.Repeat([]desk.Step{asksSpot(1, false), asksByte(0, 0), edits(-1, 0, ""), turns(way(0)), turns(way(6))}, 4)} {
		want := run(t, rich(), way(6), memoryText, steps...)
		for i := range steps {
			got := run(t, rich(), way(6), memoryText, steps...)
			spoil(append(got[i].Layout.Rows, row, row), row)
			spoil(got[i].Layout.Rows, row)
			got[i] = want[i]
			if !alike(got, want) {
				t.Errorf("R6: with the rows of step %d others were spoilt: %v, want %v", i, got, want)
			}
		}
	}
}

// R6: a text and what steps put in may share their memory.
func TestSharedMemory(t *testing.T) {
	text := []byte(memoryText)
	shared := []desk.Step{
		{Edit: api.Edit{At: 3, Ins: text}}, {Edit: api.Edit{At: 1, Del: 4, Ins: text[2:9]}}, {Edit: api.Edit{Ins: text[:0]}}, {Do: 3, Spot: api.Spot{Row: 2, Col: 1}}, {Edit: api.Edit{Del: 9, Ins: text[len(text)-4:]}}, {Edit: api.Edit{At: 3, Ins: text}},
	}
	apart := slices.Clone(shared)
	for i := range apart {
		apart[i].Edit.Ins = bytes.Clone(apart[i].Edit.Ins)
	}
	got, f := desk.Run(rich(), way(4), text, shared)
	if want := run(t, rich(), way(4), memoryText, apart...); f != (api.Fault{}) || !alike(got, want) {
		t.Errorf("R6: %v, fault %v, want %v", got, f, want)
	}
	if string(text) != memoryText {
		t.Errorf("R6: the text became %q", text)
	}
}

// R5: lists that are empty and lists that are nil are the same.
func TestNilAndEmpty(t *testing.T) {
	none, empty := simple(), simple()
	none.Marks, none.Letters = nil, nil
	empty.Marks, empty.Letters = []api.Range{}, []api.Range{}
	for _, d := range []api.Data{none, empty} {
		for _, text := range [][]byte{nil, {}, room("")} {
			for _, steps := range [][]desk.Step{nil, {}, memorySteps()[:0]} {
				if l, f := desk.Run(d, way(3), text, steps); f != (api.Fault{}) || len(l) != 0 {
					t.Errorf("R5: %v, fault %v", l, f)
				}
			}
			for _, ins := range [][]byte{nil, {}, room("")} {
				l, f := desk.Run(d, way(3), text, []desk.Step{edits(0, 0, "ab"), {Edit: api.Edit{At: 1, Del: 1, Ins: ins}}, {Edit: api.Edit{Del: 1, Ins: ins}}})
				if f != (api.Fault{}) || len(l) != 3 {
					t.Fatalf("R5: %v, fault %v", l, f)
				}
				is(t, l[1], answer{text: "a", rows: []string{"a!1"}})
				is(t, l[2], answer{rows: []string{"!0"}})
			}
		}
	}
}

// R8: scripts beside one another, of what is handed in to all of them at once.
func TestBesideOneAnother(t *testing.T) {
	want, s := memoryWanted(t), roomy()
	var beside sync.WaitGroup
	for range 8 {
		beside.Go(func() {
			if got, f := desk.Run(s.data, way(6), s.text, s.steps); f != (api.Fault{}) || !alike(got, want) {
				t.Errorf("R8: %v, fault %v, want %v", got, f, want)
			}
		})
	}
	beside.Wait()
	s.holdsNew(t)
}

// R8: other scripts between change nothing.
func TestAsksStandApart(t *testing.T) {
	want := memoryWanted(t)
	for _, text := range []string{"", "b\n", strings.Repeat("a hyphen\n", 400)} {
		run(t, simple(), way(2), text, memorySteps()...)
		refused(t, "no data", api.Data{}, way(1), nil, nil, api.Fault{Code: api.ErrName})
		refused(t, "no step", rich(), way(6), []byte(memoryText), append(memorySteps(), desk.Step{Do: 9}), api.Fault{Code: api.ErrScript, At: len(want)})
		if got := memoryWanted(t); !alike(got, want) {
			t.Errorf("R8: %v, want %v", got, want)
		}
	}
}
