package items_test

import (
	"slices"
	"testing"

	"stanza/api"
	"stanza/cells"
	"stanza/items"
	"stanza/prop"
	"stanza/scal"
)

// The tests of this file hold Make and Check against slow answers of another make: Make's is told for all boundaries of signs, and those within clusters are then left out by their bytes; Check's asks one thing after the other of the whole text.

// slowOpps is what may be done at each boundary of n signs, as if each sign were a cluster.
func slowOpps(n int, breaks []api.Opp, points []bool) []api.Opp {
	long := append(slices.Clone(breaks), all(n+1, api.Keep)...)
	for i, point := range points {
		if point && i < len(breaks) && long[i] == api.Keep {
			long[i] = api.Hyphen
		}
	}
	opps := long[:n+1]
	opps[0] = api.Keep
	opps[n] = api.Must
	return opps
}

// slowMake leaves out of slowOpps what stands ahead of signs with which no cluster begins.
func slowMake(text []byte, marks, breaks []api.Opp, points []bool, x *prop.Table) api.Para {
	l := scal.All(text)
	clusters, _ := cells.Make(l, marks, x)
	begins := map[int]int{len(text): 1}
	for _, c := range clusters {
		begins[c.At] = 1
	}
	p := api.Para{Clusters: clusters}
	for i, o := range slowOpps(len(l), breaks, points) {
		at := len(text)
		if i < len(l) {
			at = l[i].At
		}
		if begins[at] == 1 {
			p.Opps = append(p.Opps, o)
		}
	}
	return p
}

// slowCheck asks all that the promise names, in its order.
func slowCheck(p api.Para) bool {
	n := len(p.Clusters)
	if len(p.Opps)-n != 1 {
		return false
	}
	right := p.Opps[n] == 2 && (n == 0 || p.Opps[0] == 0)
	right = right && !slices.ContainsFunc(p.Opps, func(o api.Opp) bool { return o != 0 && o != 1 && o != 2 && o != 3 })
	bytes := 0.0 // beyond an int too
	for i, c := range p.Clusters {
		if i == 0 {
			right = right && c.At == 0
		} else {
			right = right && c.At-p.Clusters[i-1].At == p.Clusters[i-1].Len
		}
		right = right && c.Len > 0 && slices.Contains([]int{0, 1, 2}, c.Cells) && slices.Contains([]api.Kind{0, 1, 2}, c.Kind)
		bytes += float64(c.Len)
	}
	return right && bytes <= 4096
}

func holdAgainst(t *testing.T, text []byte, marks, breaks []api.Opp, points []bool, x *prop.Table) api.Para {
	t.Helper()
	got := items.Make(scal.All(text), marks, breaks, points, x)
	want := slowMake(text, marks, breaks, points, x)
	if !same(got, want) {
		t.Fatalf("P11.1: %q, marks %v, breaks %v, points %v: %v, want %v", text, marks, breaks, points, got, want)
	}
	if items.Check(got) != slowCheck(got) {
		t.Fatalf("P11.2: Check %v of %v", items.Check(got), got)
	}
	if items.Bytes(got) != len(text) {
		t.Fatalf("P11.2: %q has %d bytes", text, items.Bytes(got))
	}
	ends := items.Parts(got)
	if !slices.IsSorted(ends) || ends[len(ends)-1] != len(got.Clusters) {
		t.Fatalf("P11.2: Parts %v of %v", ends, got)
	}
	return got
}

type dice uint64

func (d *dice) roll(n int) int {
	*d = *d*6364136223846793005 + 1442695040888963407
	return int(uint64(*d)>>33) % n
}

// text is signs of all lengths, blanks and bytes that are none among them.
func (d *dice) text() []byte {
	pieces := []string{"a", "b", " ", " ", "\t", "\u0301", "é", "一", "😀", "\xff", "\xf0\x9f\x98", "\n"}
	var b []byte
	for range d.roll(12) {
		b = append(b, pieces[d.roll(len(pieces))]...)
	}
	return b
}

// opps are some for n signs: fewer, as many or more.
func (d *dice) opps(n int, kinds ...api.Opp) []api.Opp {
	l := make([]api.Opp, d.roll(n+4))
	for i := range l {
		l[i] = kinds[d.roll(len(kinds))]
	}
	return l
}

// points are some for n signs: fewer, as many or more.
func (d *dice) points(n int) []bool {
	l := make([]bool, d.roll(n+4))
	for i := range l {
		l[i] = d.roll(2) == 0
	}
	return l
}

// TestAgainstSlow: many texts, marks, breaks and points.
func TestAgainstSlow(t *testing.T) {
	d := dice(11)
	x := terminal(t)
	seen := map[api.Opp]int{}
	for range 30000 {
		text := d.text()
		n := len(scal.All(text))
		p := holdAgainst(t, text, d.opps(n, 0, 1, 1, 2), d.opps(n, 0, 0, 0, 1, 2, 3, 4, 200), d.points(n), x)
		for _, o := range p.Opps[:len(p.Opps)-1] {
			seen[o]++
		}
	}
	for _, o := range []api.Opp{0, 1, 2, 3, 4, 200} {
		if seen[o] < 1000 {
			t.Errorf("too few of %d: %v", o, seen)
		}
	}
}

// TestAllShort: three signs, with all marks of Keep and May, all breaks of three kinds, and all points.
func TestAllShort(t *testing.T) {
	rows := [][]api.Opp{{}}
	lists := [][]bool{{}}
	for from := 0; len(rows[from]) < 4; from++ {
		for _, o := range []api.Opp{api.Keep, api.May, api.Must} {
			rows = append(rows, append(slices.Clone(rows[from]), o))
		}
	}
	for from := 0; len(lists[from]) < 4; from++ {
		lists = append(lists, append(slices.Clone(lists[from]), false), append(slices.Clone(lists[from]), true))
	}
	for bits := range 8 {
		marks := []api.Opp{api.Opp(bits & 1), api.Opp(bits >> 1 & 1), api.Opp(bits >> 2), api.Must}
		for _, breaks := range rows {
			for _, points := range lists {
				holdAgainst(t, []byte("é一a"), marks, breaks, points, nil)
			}
		}
	}
}

// spoiltAt is a right text, with some of its numbers changed by a little.
func (d *dice) spoiltAt() api.Para {
	lengths := make([]int, d.roll(5))
	for i := range lengths {
		lengths[i] = []int{1, 1, 2, 3, 1000, 2048, 4096}[d.roll(7)]
	}
	p := row(lengths...)
	for i := range p.Opps {
		if d.roll(4) == 0 {
			p.Opps[i] = api.Opp(d.roll(5))
		}
	}
	for i := range p.Clusters {
		c := &p.Clusters[i]
		c.Kind = api.Kind(d.roll(3))
		c.Cells = d.roll(3)
		switch d.roll(30) {
		case 0:
			c.At++
		case 1:
			c.Len--
		case 2:
			c.Cells = []int{-1, 3}[d.roll(2)]
		case 3:
			c.Kind = 3
		}
	}
	return p
}

// TestCheckAgainstSlow: many texts, right and wrong ones.
func TestCheckAgainstSlow(t *testing.T) {
	d := dice(12)
	seen := [2]int{}
	for range 100000 {
		p := d.spoiltAt()
		want := slowCheck(p)
		checks(t, "held against a slow answer", p, want)
		if want {
			seen[1]++
		} else {
			seen[0]++
		}
	}
	if seen[0] < 10000 || seen[1] < 10000 {
		t.Errorf("too few wrong or right ones: %v", seen)
	}
}

func FuzzMake(f *testing.F) {
	f.Add([]byte("a\u0301 "), []byte{0, 0, 1, 2}, []byte{0, 0, 1, 2}, []byte{0, 1, 0, 1})
	f.Add([]byte("\t\xff一"), []byte{1, 3, 4, 255, 7}, []byte{2, 0}, []byte{1, 1, 1})
	f.Fuzz(func(t *testing.T, text, marks, breaks, points []byte) {
		opps := func(l []byte) []api.Opp {
			var o []api.Opp
			for _, b := range l {
				o = append(o, api.Opp(b))
			}
			return o
		}
		var cuts []bool
		for _, b := range points {
			cuts = append(cuts, b&1 == 1)
		}
		holdAgainst(t, text, opps(marks), opps(breaks), cuts, nil)
	})
}
