package just_test

import (
	"math"
	"slices"
	"strings"
	"testing"

	"stanza/api"
	"stanza/just"
	"stanza/lines"
	"stanza/span"
)

// memoryText has two parts, in four rows.
const memoryText = "a b c |d W-ef ghij!0k "

func memoryWay() api.Config { return way(7) }

// memoryWidths are Line's answers of memoryText's lines.
func memoryWidths() [][]int {
	return [][]int{{1, 2, 1, 2, 1}, {1, 3, 2}, {1, 1, 1, 1, 1, 1, 1}, {0, 1}}
}

// memoryHolds holds Line of all lines of memoryText.
func memoryHolds(t *testing.T, what string, p api.Para) {
	t.Helper()
	l, _ := lines.Break(p, memoryWay())
	if len(l) != 4 {
		t.Fatalf("%s: lines %v", what, l)
	}
	for i, want := range memoryWidths() {
		if got := just.Line(p, l[i], memoryWay()); !slices.Equal(got, want) {
			t.Errorf("R6, R8: %s: %v: %v, want %v", what, l[i], got, want)
		}
	}
}

// spoil puts a thing at all places of a list, its spare room included.
func spoil[T any](l []T, with T) {
	l = l[:cap(l)]
	for i := range l {
		l[i] = with
	}
}

// R6: the text that is handed in isn't changed, spare room included; nor is that room read.
func TestTextStays(t *testing.T) {
	for _, letter := range []byte(sorts) {
		p := text(memoryText)
		n := len(p.Clusters)
		p.Clusters = append(p.Clusters, cluster(letter, n), cluster('W', n+1))
		p.Opps = append(p.Opps, api.May, api.Must)
		clusters, opps := slices.Clone(p.Clusters), slices.Clone(p.Opps)
		memoryHolds(t, "a text with spare room", api.Para{Clusters: p.Clusters[:n], Opps: p.Opps[:n+1]})
		if !slices.Equal(p.Clusters, clusters) || !slices.Equal(p.Opps, opps) {
			t.Errorf("R6: the text became %v", p)
		}
	}
}

// R6: answers are new memory: they may be changed without changing others, what was handed in, or what is asked for later.
func TestAnswersAreNew(t *testing.T) {
	p := text(memoryText)
	clusters, opps := slices.Clone(p.Clusters), slices.Clone(p.Opps)
	l, _ := lines.Break(p, memoryWay())
	for range 3 {
		for i, line := range l {
			one, other := just.Line(p, line, memoryWay()), just.Line(p, line, memoryWay())
			spoil(one, -7)
			if !slices.Equal(other, memoryWidths()[i]) {
				t.Errorf("R6: spoilt with another one: %v", other)
			}
			spoil(other, 99)
		}
		memoryHolds(t, "behind spoilt answers", p)
		one, other := just.Spread(5, 3), just.Spread(5, 3)
		spoil(one, -7)
		if !slices.Equal(other, []int{1, 2, 2}) {
			t.Errorf("R6: spoilt with another one: %v", other)
		}
		spoil(other, 99)
		spoil(just.Spread(-1, 3), 9)
		spreads(t, 5, 3, 1, 2, 2)
		spreads(t, -1, 3)
	}
	if !slices.Equal(p.Clusters, clusters) || !slices.Equal(p.Opps, opps) {
		t.Errorf("R6: the text became %v", p)
	}
}

// R6: nothing of what was handed in is kept: a text that is changed changes no answer.
func TestNothingIsKept(t *testing.T) {
	p := text(memoryText)
	l, _ := lines.Break(p, memoryWay())
	got := just.Line(p, l[0], memoryWay())
	spoil(p.Clusters, cluster('W', 0))
	spoil(p.Opps, api.Cut)
	if !slices.Equal(got, memoryWidths()[0]) {
		t.Errorf("R6: behind a change of the text: %v", got)
	}
	memoryHolds(t, "behind a change of another one", text(memoryText))
}

// R8: other lines, texts and ways that were asked for in between change no answer.
func TestAsksStandApart(t *testing.T) {
	for range 3 {
		memoryHolds(t, "between other asks", text(memoryText))
		fills(t, "a b |ccccc", way(6), "a b |", "1 4 1", "ccccc!", "1 1 1 1 1")
		fills(t, "", way(1))
		spreads(t, 7, 2, 3, 4)
		spreads(t, 3, 0)
	}
}

// R5: a text without clusters has no lines; the line of nothing has no numbers, however it ends, whether the clusters are nil or an empty list.
func TestNoClusters(t *testing.T) {
	room := []api.Cluster{cluster(' ', 0), cluster('a', 1)}
	for _, clusters := range [][]api.Cluster{nil, {}, room[:0]} {
		p := api.Para{Clusters: clusters, Opps: []api.Opp{api.Must}}
		for _, c := range []api.Config{way(1), best(way(1)), way(api.MaxWidth)} {
			right(t, p, c)
			if l, _ := lines.Break(p, c); len(l) != 0 {
				t.Errorf("R5: lines %v", l)
			}
			for end := range api.Opp(5) {
				if got := just.Line(p, span.Make(p, 0, 0, end, c.Tab), c); len(got) != 0 {
					t.Errorf("R5: %v of no clusters, ended by %d", got, end)
				}
			}
		}
	}
}

// R5: a line without clusters has no numbers, at each boundary of a text.
func TestLinesOfNothing(t *testing.T) {
	p := text(memoryText)
	for at := range p.Opps {
		for end := range api.Opp(5) {
			if got := just.Line(p, span.Make(p, at, at, end, 4), way(9)); len(got) != 0 {
				t.Errorf("R5: %v from %d to itself, ended by %d", got, at, end)
			}
		}
	}
}

// P18.2: texts of 4096 clusters, in one line with the greatest room there is.
func TestLarge(t *testing.T) {
	c := way(api.MaxWidth)
	for _, letters := range []string{strings.Repeat(" ", 4094) + "a", strings.Repeat("a ", 2047) + "a", " " + strings.Repeat("t", 4094), strings.Repeat("W =", 1365)} {
		p := text(letters + "|b")
		right(t, p, c)
		l := span.Make(p, 0, 4095, api.May, c.Tab)
		got := just.Line(p, l, c)
		if !slices.Equal(got, slowLine(p, l, c)) {
			t.Errorf("P18.2: %q...: %v", letters[:5], got[:5])
		}
		sum := 0
		for _, n := range got {
			sum += n
		}
		if sum != c.Width {
			t.Errorf("P18.3: %q...: %d in all", letters[:5], sum)
		}
		last, _ := lines.Break(p, c)
		if len(last) != 1 || !slices.Equal(just.Line(p, last[0], c), slowLine(p, last[0], c)) {
			t.Errorf("P18.2: %q..., as the last line", letters[:5])
		}
	}
}

// P18.2, P18.3: the longest text there is, in lines of several widths.
func TestLargeLines(t *testing.T) {
	p := text(strings.Repeat("ab |c  |W- t|d ", 500)[:4096])
	for _, width := range []int{1, 2, 3, 7, 20, 80, 1000, 4096} {
		hold(t, p, way(width))
	}
}

var ints = []int{math.MinInt, math.MinInt + 1, -4096, -1, 0, 1, 2, 3, 4, 5, 6, 7, 4096, 4097, 1 << 20, 1<<20 + 1, math.MaxInt - 1, math.MaxInt}

// P1: Spread at every two of these numbers.
func TestSpreadAllNumbers(t *testing.T) {
	for _, room := range ints {
		for _, gaps := range ints {
			spreads(t, room, gaps, slowSpread(room, gaps)...)
		}
	}
}

// wrongTexts are some that items.Check refuses, beside right ones.
func wrongTexts() []api.Para {
	wrong := text("ab d")
	wrong.Clusters[1] = api.Cluster{At: -1, Len: -1, Cells: math.MaxInt, Kind: 77}
	wrong.Clusters[2] = api.Cluster{At: math.MaxInt, Len: math.MaxInt, Cells: math.MinInt, Kind: api.Tab}
	wrong.Clusters[3] = api.Cluster{Cells: -5}
	wrong.Opps = []api.Opp{api.Must, 9, api.Cut, 255}
	many := text(strings.Repeat(" ", 5000) + "a")
	return []api.Para{{}, {Opps: []api.Opp{api.Must}}, {Opps: []api.Opp{1, 3, 2, 2}}, {Clusters: text("t W").Clusters}, text(" t0a|W-"), wrong, many}
}

// P1: of wrong texts and ways, and of lines that aren't the text's, nothing is promised, but every call ends and none panics.
func TestEveryCallEnds(t *testing.T) {
	for _, p := range wrongTexts() {
		for i, from := range ints {
			for j, to := range ints {
				for k, width := range ints {
					for end := range api.Opp(6) {
						c := api.Config{Width: width, Tab: ints[(i+j+k)%len(ints)], Mode: 9}
						just.Line(p, api.Line{From: from, To: to, Cells: width, End: end}, c)
					}
				}
			}
		}
	}
}
