package cells_test

import (
	"slices"
	"testing"

	"stanza/api"
	"stanza/cells"
	"stanza/prop"
	"stanza/scal"
)

// The tests of this file hold Make against a slow answer of another make: each sign is asked by itself with which one its cluster begins, and bytes are told by the places of the first one and of the one behind the last.

// slowFirst is the place of the sign with which the cluster of a sign begins.
func slowFirst(marks []api.Opp, place int) int {
	for ; place > 0; place-- {
		if place < len(marks) && marks[place] != api.Keep {
			break
		}
	}
	return place
}

// slowCells asks ranges one by one, without a table.
func slowCells(ranges []api.Range, r int32) int {
	for _, g := range ranges {
		if g.Lo <= r && r <= g.Hi {
			return g.To
		}
	}
	return 0
}

// slowMake is of all signs of a text.
func slowMake(text []byte, marks []api.Opp, ranges []api.Range) (clusters []api.Cluster, places []int) {
	l := scal.All(text)
	for i := range l {
		if slowFirst(marks, i) == i {
			places = append(places, i)
		}
	}
	places = append(places, len(l))
	for k := range len(places) - 1 {
		var numbers []int32
		var most []int
		for i, s := range l {
			if slowFirst(marks, i) == places[k] {
				numbers = append(numbers, s.R)
				most = append(most, slowCells(ranges, s.R))
			}
		}
		end := len(text)
		if places[k+1] < len(l) {
			end = l[places[k+1]].At
		}
		c := api.Cluster{At: l[places[k]].At, Len: end - l[places[k]].At, Cells: slices.Max(most)}
		if c.Cells > 2 {
			c.Cells = 2
		}
		if slices.Equal(numbers, []int32{32}) {
			c.Kind = api.Space
		}
		if slices.Equal(numbers, []int32{9}) {
			c.Kind = api.Tab
		}
		clusters = append(clusters, c)
	}
	return clusters, places
}

// fits holds what the chapter says of the numbers and the bytes, whatever the marks are.
func fits(t *testing.T, text []byte, n int, clusters []api.Cluster, places []int) {
	t.Helper()
	if len(places) != len(clusters)+1 || places[len(places)-1] != n || places[0] != 0 {
		t.Fatalf("P10.1: %q: %d clusters, numbers %v", text, len(clusters), places)
	}
	at := 0
	for i, c := range clusters {
		if places[i] >= places[i+1] || c.At != at || c.Len < 1 {
			t.Fatalf("P10.1: %q: clusters %v, numbers %v", text, clusters, places)
		}
		at += c.Len
	}
	if at != len(text) {
		t.Fatalf("P10.1: %q: clusters have %d bytes", text, at)
	}
}

func holdAgainst(t *testing.T, text []byte, marks []api.Opp, ranges []api.Range, p *prop.Table) []api.Cluster {
	t.Helper()
	l := scal.All(text)
	got, at := cells.Make(l, marks, p)
	want, places := slowMake(text, marks, ranges)
	if !slices.Equal(got, want) || !slices.Equal(at, places) {
		t.Fatalf("P10.1: %q, marks %v, ranges %v: %v, %v, want %v, %v", text, marks, ranges, got, at, want, places)
	}
	fits(t, text, len(l), got, at)
	return got
}

type dice uint64

func (d *dice) roll(n int) int {
	*d = *d*6364136223846793005 + 1442695040888963407
	return int(uint64(*d)>>33) % n
}

// text is signs of all lengths, blanks and bytes that are none among them.
func (d *dice) text() []byte {
	pieces := []string{"a", "b", " ", " ", "\t", "\u0301", "é", "一", "😀", "\xff", "\xf0\x9f\x98", "\n", "\x00", "\U0010ffff"}
	var b []byte
	for range d.roll(12) {
		b = append(b, pieces[d.roll(len(pieces))]...)
	}
	return b
}

// marks are some for n signs: fewer, as many or more.
func (d *dice) marks(n int) []api.Opp {
	kinds := []api.Opp{0, 0, 0, 0, 1, 2, 3, 4, 5, 255}
	marks := make([]api.Opp, d.roll(n+4))
	for i := range marks {
		marks[i] = kinds[d.roll(len(kinds))]
	}
	return marks
}

// ranges are of widths from 0 to beyond 2, for some of what text makes.
func (d *dice) ranges() []api.Range {
	to := func() int { return []int{0, 1, 1, 2, 3, 255}[d.roll(6)] }
	all := []api.Range{
		{Lo: 0, Hi: 9, To: to()}, {Lo: 10, Hi: 31, To: to()}, {Lo: 32, Hi: 32, To: to()}, {Lo: 33, Hi: 97, To: to()}, {Lo: 98, Hi: 0xff, To: to()},
		{Lo: 0x300, Hi: 0x36f, To: to()}, {Lo: 0x4e00, Hi: 0x9fff, To: to()}, {Lo: api.Bad, Hi: api.Bad, To: to()}, {Lo: 0x10000, Hi: top, To: to()},
	}
	return slices.DeleteFunc(all, func(api.Range) bool { return d.roll(4) == 0 })
}

// TestAgainstSlow: many texts, marks and tables.
func TestAgainstSlow(t *testing.T) {
	d := dice(10)
	kinds := map[api.Kind]int{}
	widths := map[int]int{}
	for range 300 {
		ranges := d.ranges()
		p := table(t, ranges...)
		for range 100 {
			text := d.text()
			for _, c := range holdAgainst(t, text, d.marks(len(scal.All(text))), ranges, p) {
				kinds[c.Kind]++
				widths[c.Cells]++
			}
		}
	}
	for k := range api.Kind(3) {
		if kinds[k] < 1000 || widths[int(k)] < 1000 {
			t.Errorf("too few of kind or width %d: %v, %v", k, kinds, widths)
		}
	}
}

// TestAllShort: all short texts of some signs, with all marks of Keep and May.
func TestAllShort(t *testing.T) {
	ranges := []api.Range{{Lo: ' ', Hi: 'a', To: 1}, {Lo: 0x4e00, Hi: 0x4e00, To: 3}}
	p := table(t, ranges...)
	pieces := []string{" ", "\t", "a", "一", "\xff"}
	texts := []string{""}
	for from := 0; len(texts) < 700; {
		to := len(texts)
		for _, text := range texts[from:to] {
			for _, piece := range pieces {
				texts = append(texts, text+piece)
			}
		}
		from = to
	}
	for _, text := range texts {
		for n := range 6 {
			for bits := range 1 << n {
				marks := make([]api.Opp, n)
				for i := range marks {
					marks[i] = api.Opp(bits >> i & 1)
				}
				holdAgainst(t, []byte(text), marks, ranges, p)
			}
		}
	}
}

func FuzzMake(f *testing.F) {
	f.Add([]byte("a\u0301 "), []byte{0, 0, 1, 2}, int32(32), int32(126), 1)
	f.Add([]byte("\t\xff一"), []byte{1, 3, 4, 255, 7}, int32(0), int32(top), 200)
	f.Fuzz(func(t *testing.T, text, marks []byte, lo, hi int32, to int) {
		ranges := []api.Range{{Lo: lo, Hi: hi, To: to}}
		p, e := prop.Make(ranges, 256)
		if e != api.OK {
			ranges = nil
		}
		opps := make([]api.Opp, len(marks))
		for i, m := range marks {
			opps[i] = api.Opp(m)
		}
		holdAgainst(t, text[:min(len(text), 100)], opps, ranges, p)
	})
}
