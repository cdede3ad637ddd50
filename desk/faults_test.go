package desk_test

import (
	"math"
	"slices"
	"strings"
	"testing"

	"stanza/api"
	"stanza/book"
	"stanza/desk"
)

// wrongData is what makes a part of data wrong, and the fault that it has then.
type wrongData struct {
	part  string
	spoil func(d *api.Data)
	fault api.Fault
}

// inOrder is each part of data, in the order in which they are looked at.
func inOrder() []wrongData {
	none := []api.Range{{Lo: 2, Hi: 1}}
	return []wrongData{
		{"MarkRules", func(d *api.Data) { d.MarkRules = "class O; keep / P;" }, api.Fault{Code: api.ErrName, At: 16}},
		{"BreakRules", func(d *api.Data) { d.BreakRules = "class O O;" }, api.Fault{Code: api.ErrTwice, At: 8}},
		{"Marks", func(d *api.Data) { d.Marks = none }, api.Fault{Code: api.ErrTable}},
		{"Breaks", func(d *api.Data) { d.Breaks = none }, api.Fault{Code: api.ErrTable}},
		{"Cells", func(d *api.Data) { d.Cells = []api.Range{{Lo: 1, Hi: 2, To: 3}} }, api.Fault{Code: api.ErrTable}},
		{"Letters", func(d *api.Data) { d.Letters = none }, api.Fault{Code: api.ErrTable}},
		{"Left", func(d *api.Data) { d.Left = 0 }, api.Fault{Code: api.ErrConfig}},
		{"Right", func(d *api.Data) { d.Right = 25 }, api.Fault{Code: api.ErrConfig}},
		{"Patterns", func(d *api.Data) { d.Patterns = "ab a--b" }, api.Fault{Code: api.ErrPattern, At: 3}},
	}
}

// scripts are some steps: none, a few that are right, and some that are refused.
func scripts() [][]desk.Step {
	return [][]desk.Step{nil, {edits(0, 0, "a")}, {edits(9, 0, "a"), turns(way(0)), asksSpot(-1, false), asksByte(9, 9)}, slices.Repeat([]desk.Step{asksSpot(0, false)}, api.MaxSteps)}
}

// P23.1: book.New's fault, of each part, with its place.
func TestFaultsOfData(t *testing.T) {
	for _, wrong := range inOrder() {
		for _, d := range []api.Data{simple(), rich()} {
			wrong.spoil(&d)
			if _, f := book.New(d); f != wrong.fault {
				t.Fatalf("P20.1: %s: fault %v", wrong.part, f)
			}
			for _, steps := range scripts() {
				refused(t, wrong.part, d, way(3), []byte("ab cd"), steps, wrong.fault)
			}
		}
	}
	refused(t, "no data", api.Data{}, way(3), nil, nil, api.Fault{Code: api.ErrName})
}

// P23.1: faults of each kind of rules and patterns, each where it is.
func TestFaultsOfTexts(t *testing.T) {
	for _, wrong := range []struct {
		rules string
		fault api.Fault
	}{
		{"", api.Fault{Code: api.ErrName}},
		{"class A", api.Fault{Code: api.ErrParse, At: 7}},
		{"class O S N; keep O $ P;", api.Fault{Code: api.ErrToken, At: 20}},
		{"class O S N; keep O / P;", api.Fault{Code: api.ErrName, At: 22}},
		{"class O S N; keep O / " + strings.Repeat("(", 17), api.Fault{Code: api.ErrDeep, At: 38}},
		{"class O S N; keep " + strings.Repeat("O ", 201) + "/ O;", api.Fault{Code: api.ErrPlaces, At: 418}},
		{"class O S N; keep O . . . . . . . . . / .;", api.Fault{Code: api.ErrStates}},
		{"class O S N;" + strings.Repeat(" ", 4085), api.Fault{Code: api.ErrMany, At: 4096}},
	} {
		marks, breaks := simple(), simple()
		marks.MarkRules, breaks.BreakRules = wrong.rules, wrong.rules
		refused(t, "the marks' rules "+wrong.rules, marks, way(3), nil, nil, wrong.fault)
		refused(t, "the breaks' rules "+wrong.rules, breaks, way(3), nil, nil, wrong.fault)
	}
	for _, wrong := range []struct {
		patterns string
		fault    api.Fault
	}{
		{"a1 a12b", api.Fault{Code: api.ErrPattern, At: 3}},
		{"a-b ab-c a-b", api.Fault{Code: api.ErrTwice, At: 9}},
		{strings.Repeat("a ", 257), api.Fault{Code: api.ErrMany, At: 512}},
		{strings.Repeat(" ", 4097), api.Fault{Code: api.ErrMany, At: 4096}},
	} {
		d := rich()
		d.Patterns = wrong.patterns
		refused(t, "the patterns "+wrong.patterns, d, way(3), nil, nil, wrong.fault)
	}
}

// P23.1: a way that is none is ErrConfig at 0, whatever the text and the steps are.
func TestWrongWays(t *testing.T) {
	for _, c := range wrongWays() {
		for _, text := range []string{"", "ab cd", strings.Repeat("a", api.MaxText+1)} {
			for _, steps := range scripts() {
				refused(t, "a way that is none", rich(), c, []byte(text), steps, api.Fault{Code: api.ErrConfig})
			}
		}
	}
	for _, c := range edgeWays() {
		run(t, rich(), c, "ab hyphen\n\tb", edits(3, 0, "c"), asksSpot(9, true))
	}
}

// P23.1: a text of more than 4096 bytes is ErrText at 0, whatever the steps are: also those that would make it shorter.
func TestLongTexts(t *testing.T) {
	for _, n := range []int{api.MaxText + 1, 2 * api.MaxText, 1 << 20} {
		for _, steps := range append(scripts(), []desk.Step{edits(0, n, "")}) {
			refused(t, "a long text", simple(), way(3), make([]byte, n), steps, api.Fault{Code: api.ErrText})
		}
	}
}

// noDos are numbers that are no Do. Of some of them the last bits say one.
func noDos() []int {
	return []int{4, 5, 7, 8, -1, -2, -3, -4, math.MinInt, math.MinInt + 1, math.MinInt + 3, math.MaxInt, math.MaxInt - 3, 1 << 8, 1<<8 + 3, 1 << 16, 1 << 32, 1<<32 + 1, 1<<32 + 3, -1 << 32, 1 << 62}
}

// P23.1: a Do that is none, as each step of a script, as the only one, and beside others: ErrScript there, and no answers.
func TestNoDo(t *testing.T) {
	longest := slices.Repeat([]desk.Step{edits(1, 1, "xy"), turns(way(4)), asksSpot(2, false), asksByte(0, 1)}, api.MaxSteps/4)
	for _, script := range [][]desk.Step{{{}}, {edits(0, 1, ""), asksSpot(1, true), turns(best(2, 1))}, {edits(9, 9, ""), turns(way(0)), asksSpot(9, true), asksByte(0, -1)}, longest} {
		for at := range script {
			for _, do := range noDos() {
				steps := slices.Clone(script)
				steps[at].Do = do
				refused(t, "a Do that is none", simple(), way(3), []byte("ab cd"), steps, api.Fault{Code: api.ErrScript, At: at})
			}
			run(t, simple(), way(3), "ab cd", script[:at]...)
		}
	}
}

// P23.1: of several that are none the first one is told, whatever the numbers are.
func TestFirstNoDo(t *testing.T) {
	for _, one := range noDos() {
		for _, other := range []int{4, -1, math.MaxInt, math.MinInt} {
			steps := []desk.Step{edits(0, 0, "a"), {Do: one}, asksSpot(9, false), {Do: other}, {Do: other}}
			refused(t, "several that are none", rich(), way(3), nil, steps, api.Fault{Code: api.ErrScript, At: 1})
		}
	}
}

// P23.1, R2: of all that may be wrong together: too many steps, each part of the data, the way, the text, a step's Do, the first is told.
func TestFirstFault(t *testing.T) {
	parts := inOrder()
	for some := range 1 << len(parts) {
		d := rich()
		var data api.Fault
		for i := len(parts) - 1; i >= 0; i-- {
			if some>>i&1 == 1 {
				parts[i].spoil(&d)
				data = parts[i].fault
			}
		}
		for others := range 1 << 4 {
			many, wrongWay, long, noDo := others&1 > 0, others&2 > 0, others&4 > 0, others&8 > 0
			c, text, steps := way(3), make([]byte, api.MaxText), make([]desk.Step, api.MaxSteps)
			want := api.Fault{}
			if noDo {
				steps[2].Do, want = 4, api.Fault{Code: api.ErrScript, At: 2}
			}
			if long {
				text, want = append(text, 'a'), api.Fault{Code: api.ErrText}
			}
			if wrongWay {
				c.Tab, want = 0, api.Fault{Code: api.ErrConfig}
			}
			if data.Code != api.OK {
				want = data
			}
			if many {
				steps, want = append(steps, desk.Step{Do: -1}), api.Fault{Code: api.ErrScript, At: 64}
			}
			if want.Code != api.OK {
				refused(t, "faults together", d, c, text, steps, want)
			}
		}
	}
}

// R3: beside no fault there is a zero one, and a fault of what has no place is at 0, behind any script.
func TestFaultsHaveNoPlace(t *testing.T) {
	steps := []desk.Step{asksSpot(3, false), asksByte(2, 2), edits(2, 0, strings.Repeat("a", 5000))}
	refused(t, "a wrong way", simple(), api.Config{}, []byte("abcdef"), steps, api.Fault{Code: api.ErrConfig})
	refused(t, "a long text", simple(), way(1), make([]byte, 5000), steps, api.Fault{Code: api.ErrText})
	if _, f := desk.Run(simple(), way(1), []byte("abcdef"), steps); f != (api.Fault{}) {
		t.Errorf("R3: fault %v", f)
	}
}
