package prop_test

import (
	"math"
	"slices"
	"testing"

	"stanza/api"
	"stanza/prop"
)

const top = 0x10ffff

func rg(lo, hi int32, to int) api.Range { return api.Range{Lo: lo, Hi: hi, To: to} }

// mustMake is for ranges that the chapter allows.
func mustMake(t *testing.T, l []api.Range, most int) *prop.Table {
	t.Helper()
	p, e := prop.Make(l, most)
	if e != api.OK || p == nil {
		t.Fatalf("P2.1: Make of right ranges answered %v, %d", p, e)
	}
	return p
}

// single is n ranges of one number each, a number apart.
func single(n int) []api.Range {
	var l []api.Range
	for i := range n {
		l = append(l, rg(int32(2*i), int32(2*i), i%256))
	}
	return l
}

func TestCheckAndMake(t *testing.T) {
	cases := []struct {
		name string
		l    []api.Range
		most int
		want bool
	}{
		{"no list", nil, 3, true},
		{"an empty list", []api.Range{}, 3, true},
		{"nothing, most 0", nil, 0, true},
		{"nothing, most below 0", nil, -1, true},
		{"nothing, least most", nil, math.MinInt, true},
		{"one number", []api.Range{rg(5, 5, 1)}, 3, true},
		{"two apart", []api.Range{rg(0x30, 0x39, 1), rg(0x41, 0x5a, 2)}, 3, true},
		{"the same To twice", []api.Range{rg(1, 2, 1), rg(4, 5, 1)}, 3, true},
		{"To falls", []api.Range{rg(1, 2, 2), rg(4, 5, 1)}, 3, true},
		{"To 0", []api.Range{rg(1, 2, 0)}, 1, true},
		{"surrogates", []api.Range{rg(0xd800, 0xdfff, 1)}, 3, true},

		{"Lo 0", []api.Range{rg(0, 5, 1)}, 3, true},
		{"Lo and Hi 0", []api.Range{rg(0, 0, 1)}, 3, true},
		{"Lo below 0", []api.Range{rg(-1, 5, 1)}, 3, false},
		{"Lo and Hi below 0", []api.Range{rg(-2, -1, 1)}, 3, false},
		{"least Lo", []api.Range{rg(math.MinInt32, 5, 1)}, 3, false},
		{"least Lo and Hi", []api.Range{rg(math.MinInt32, math.MinInt32, 1)}, 3, false},
		{"Lo below 0, second", []api.Range{rg(1, 1, 1), rg(-1, 5, 1)}, 3, false},
		{"Hi the greatest", []api.Range{rg(1, top, 1)}, 3, true},
		{"Lo and Hi the greatest", []api.Range{rg(top, top, 1)}, 3, true},
		{"all numbers", []api.Range{rg(0, top, 1)}, 3, true},
		{"Hi above the greatest", []api.Range{rg(1, top+1, 1)}, 3, false},
		{"Lo above the greatest", []api.Range{rg(top+1, top+1, 1)}, 3, false},
		{"greatest Hi", []api.Range{rg(1, math.MaxInt32, 1)}, 3, false},
		{"Hi above the greatest, second", []api.Range{rg(1, 1, 1), rg(2, top+1, 1)}, 3, false},
		{"Hi below Lo", []api.Range{rg(5, 4, 1)}, 3, false},
		{"Hi below Lo, second", []api.Range{rg(1, 2, 1), rg(5, 4, 1)}, 3, false},
		{"Hi below Lo by far", []api.Range{rg(top, 0, 1)}, 3, false},
		{"Hi below Lo, and below 0", []api.Range{rg(0, -1, 1)}, 3, false},

		{"touching", []api.Range{rg(1, 2, 1), rg(3, 4, 2)}, 3, true},
		{"touching at the greatest", []api.Range{rg(0, top-1, 1), rg(top, top, 2)}, 3, true},
		{"overlapping by one", []api.Range{rg(1, 3, 1), rg(3, 4, 2)}, 3, false},
		{"overlapping at 0", []api.Range{rg(0, 0, 1), rg(0, 1, 2)}, 3, false},
		{"one in the other", []api.Range{rg(1, 9, 1), rg(3, 4, 2)}, 3, false},
		{"the same twice", []api.Range{rg(1, 9, 1), rg(1, 9, 1)}, 3, false},
		{"falling", []api.Range{rg(5, 6, 1), rg(1, 2, 2)}, 3, false},
		{"falling, third", []api.Range{rg(1, 2, 1), rg(5, 6, 1), rg(3, 4, 2)}, 3, false},
		{"overlapping, third", []api.Range{rg(1, 2, 1), rg(5, 6, 1), rg(6, 7, 2)}, 3, false},

		{"To at most less 1", []api.Range{rg(1, 1, 2)}, 3, true},
		{"To at most", []api.Range{rg(1, 1, 3)}, 3, false},
		{"To above most", []api.Range{rg(1, 1, 4)}, 3, false},
		{"To at most, second", []api.Range{rg(1, 1, 2), rg(2, 2, 3)}, 3, false},
		{"To below 0", []api.Range{rg(1, 1, -1)}, 3, false},
		{"least To", []api.Range{rg(1, 1, math.MinInt)}, 3, false},
		{"To 255, most 256", []api.Range{rg(1, 1, 255)}, 256, true},
		{"To 255, most above", []api.Range{rg(1, 1, 255)}, 1000, true},
		{"To 255, greatest most", []api.Range{rg(1, 1, 255)}, math.MaxInt, true},
		{"To 255, most 255", []api.Range{rg(1, 1, 255)}, 255, false},
		{"To 254, most 255", []api.Range{rg(1, 1, 254)}, 255, true},
		{"To 256, most 257", []api.Range{rg(1, 1, 256)}, 257, false},
		{"To 256, greatest most", []api.Range{rg(1, 1, 256)}, math.MaxInt, false},
		{"To that a byte makes 1", []api.Range{rg(1, 1, 257)}, 1000, false},
		{"greatest To", []api.Range{rg(1, 1, math.MaxInt)}, math.MaxInt, false},
		{"To 0, most 0", []api.Range{rg(1, 1, 0)}, 0, false},
		{"To 0, most below 0", []api.Range{rg(1, 1, 0)}, -1, false},
		{"To below 0, most below it", []api.Range{rg(1, 1, -1)}, -2, false},
		{"To below 0, least most", []api.Range{rg(1, 1, -1)}, math.MinInt, false},

		{"255 ranges", single(255), 256, true},
		{"256 ranges", single(256), 256, true},
		{"257 ranges", single(257), 256, false},
		{"512 ranges", single(512), 256, false},
		{"256 ranges, the last one wrong", append(single(255), rg(3, 3, 1)), 256, false},
	}
	for _, c := range cases {
		if got := prop.Check(c.l, c.most); got != c.want {
			t.Errorf("P2.1: %s: Check answered %v", c.name, got)
		}
		p, e := prop.Make(c.l, c.most)
		if c.want && (e != api.OK || p == nil) {
			t.Errorf("P2.1: %s: Make answered %d", c.name, e)
		}
		if !c.want && (e != api.ErrTable || p != nil) {
			t.Errorf("P2.1, R3: %s: Make answered %v, %d", c.name, p != nil, e)
		}
	}
}

func TestExamplesOfTheChapter(t *testing.T) {
	p := mustMake(t, []api.Range{rg(0x30, 0x39, 1), rg(0x41, 0x5a, 2)}, 3)
	for _, c := range []struct {
		r    int32
		want int
	}{
		{0x2f, 0}, {0x30, 1}, {0x35, 1}, {0x39, 1}, {0x3a, 0}, {0x40, 0}, {0x41, 2}, {0x5a, 2}, {0x5b, 0},
		{0x130, 0}, {0x135, 0}, {0x10030, 0}, {0x100030, 0},
	} {
		if got := p.Of(c.r); got != c.want {
			t.Errorf("P2.2: Of(%x) = %d, not %d", c.r, got, c.want)
		}
	}
	if got := p.Blocks(); got != 2 {
		t.Errorf("P2.2: Blocks = %d, not 2", got)
	}
	if got := mustMake(t, nil, 3).Blocks(); got != 1 {
		t.Errorf("P2.2: Blocks of nothing = %d, not 1", got)
	}
}

func TestOfNumbersThatAreNone(t *testing.T) {
	p := mustMake(t, []api.Range{rg(0, top, 7)}, 8)
	for _, r := range []int32{math.MinInt32, -top, -257, -256, -255, -2, -1, top + 1, top + 2, top + 256, top + 257, 2 * top, math.MaxInt32} {
		if got := p.Of(r); got != 0 {
			t.Errorf("P2.2: Of(%d) = %d, not 0", r, got)
		}
	}
	for _, r := range []int32{0, 1, 255, 256, 0xd7ff, 0xd800, 0xdfff, 0xe000, 0xffff, 0x10000, 0x10ff00, top - 1, top} {
		if got := p.Of(r); got != 7 {
			t.Errorf("P2.2: Of(%x) = %d, not 7", r, got)
		}
	}
}

func TestBlocks(t *testing.T) {
	var rows []api.Range // alike in 256 rows, each with one number
	for i := range int32(256) {
		rows = append(rows, rg(i*256+9, i*256+9, 4))
	}
	var falling []api.Range // 256 rows, none like another
	for i := range int32(256) {
		falling = append(falling, rg(i*256+255-i, i*256+255-i, 4))
	}
	values := slices.Clone(rows) // 256 rows that hold another To each, one of them 0
	for i := range values {
		values[i].To = i
	}
	cases := []struct {
		name string
		l    []api.Range
		want int
	}{
		{"of nothing", nil, 1},
		{"of To 0", []api.Range{rg(0x30, 0x39, 0), rg(0x400, 0x8ff, 0)}, 1},
		{"of To 0 everywhere", []api.Range{rg(0, top, 0)}, 1},
		{"within the first row", []api.Range{rg(1, 2, 1), rg(9, 9, 2)}, 2},
		{"the first number", []api.Range{rg(0, 0, 1)}, 2},
		{"the last number", []api.Range{rg(top, top, 1)}, 2},
		{"the first and the last one", []api.Range{rg(0, 0, 1), rg(top, top, 1)}, 3},
		{"a whole row", []api.Range{rg(0x300, 0x3ff, 1)}, 2},
		{"rows that are whole", []api.Range{rg(0x300, 0x7ff, 1)}, 2},
		{"across two rows", []api.Range{rg(0x3ff, 0x400, 1)}, 3},
		{"across three rows", []api.Range{rg(0x3ff, 0x500, 1)}, 4},
		{"across four rows", []api.Range{rg(0x3ff, 0x600, 1)}, 4},
		{"no row is of zeros", []api.Range{rg(0, top, 1)}, 2},
		{"no row is of zeros, two values", []api.Range{rg(0, 0xffff, 1), rg(0x10000, top, 2)}, 3},
		{"all but the first", []api.Range{rg(1, top, 1)}, 3},
		{"all but the last", []api.Range{rg(0, top-1, 1)}, 3},
		{"two rows alike", []api.Range{rg(0x110, 0x11f, 1), rg(0x210, 0x21f, 1)}, 2},
		{"two rows alike, apart", []api.Range{rg(0x110, 0x11f, 1), rg(0x310, 0x31f, 2), rg(0x10ff10, 0x10ff1f, 1)}, 3},
		{"two rows unlike by a value", []api.Range{rg(0x110, 0x11f, 1), rg(0x210, 0x21f, 2)}, 3},
		{"two rows unlike by a place", []api.Range{rg(0x110, 0x11f, 1), rg(0x211, 0x21f, 1)}, 3},
		{"two rows unlike at the end", []api.Range{rg(0x110, 0x1fe, 1), rg(0x210, 0x2ff, 1)}, 3},
		{"alike though written otherwise", []api.Range{rg(0x110, 0x117, 1), rg(0x118, 0x11f, 1), rg(0x210, 0x21f, 1)}, 2},
		{"alike but for a range of 0", []api.Range{rg(0x110, 0x11f, 1), rg(0x180, 0x190, 0), rg(0x210, 0x21f, 1)}, 2},
		{"surrogates", []api.Range{rg(0xd800, 0xdfff, 1)}, 2},
		{"256 rows alike", rows, 2},
		{"256 rows unlike by the place", falling, 257},
		{"256 rows unlike by the value", values, 256},
	}
	for _, c := range cases {
		if got := mustMake(t, c.l, 256).Blocks(); got != c.want {
			t.Errorf("P2.2: Blocks, %s = %d, not %d", c.name, got, c.want)
		}
	}
}

// flat is what all numbers are, one by one: it knows neither rows nor blocks.
func flat(l []api.Range) []uint8 {
	f := make([]uint8, top+1)
	for _, g := range l {
		for r := g.Lo; r <= g.Hi; r++ {
			f[r] = uint8(g.To)
		}
	}
	return f
}

// unlike counts unlike blocks as the chapter words it.
func unlike(f []uint8) int {
	seen := map[string]bool{string(make([]byte, 256)): true}
	for at := 0; at < len(f); at += 256 {
		seen[string(f[at:at+256])] = true
	}
	return len(seen)
}

// steps is a sequence of numbers that is the same at every run.
type steps uint64

func (s *steps) below(n int) int {
	*s = *s*6364136223846793005 + 1442695040888963407
	return int(uint64(*s) >> 33 % uint64(n))
}

// some is ranges of all lengths: touching, within a row, over rows, up to the last number.
func some(s *steps) []api.Range {
	gaps := []int{1, 1, 2, 17, 256, 300, 5000}
	sizes := []int{1, 1, 2, 16, 255, 256, 257, 600, 20000}
	most := []int{2, 3, 256}[s.below(3)]
	var l []api.Range
	at := s.below(400) - 1
	for n := 1 + s.below(api.MaxRanges); len(l) < n; {
		lo := at + gaps[s.below(len(gaps))]
		hi := lo + sizes[s.below(len(sizes))] - 1
		if lo < 0 || hi > top {
			break
		}
		l = append(l, rg(int32(lo), int32(hi), s.below(most)))
		at = hi
	}
	if s.below(2) == 0 && at < top && len(l) < api.MaxRanges {
		l = append(l, rg(int32(at+1), top, s.below(most)))
	}
	return l
}

func TestAllNumbersOfManyTables(t *testing.T) {
	s := steps(1)
	for n := range 60 {
		l := some(&s)
		p := mustMake(t, l, 256)
		f := flat(l)
		for r := range f {
			if got := p.Of(int32(r)); got != int(f[r]) {
				t.Fatalf("P2.2: table %d: Of(%x) = %d, not %d", n, r, got, f[r])
			}
		}
		if got, want := p.Blocks(), unlike(f); got != want {
			t.Errorf("P2.2: table %d: Blocks = %d, not %d", n, got, want)
		}
	}
}

func TestEach(t *testing.T) {
	p := mustMake(t, []api.Range{rg(0x30, 0x39, 1), rg(0x41, 0x5a, 2), rg(0xfffd, 0xfffd, 255), rg(top, top, 3)}, 256)
	l := []api.Scalar{
		{R: 0x41, At: 0, Len: 1}, {R: 0x35, At: 1, Len: 1}, {R: 0x40, At: 2, Len: 1}, {R: 0x41, At: 3, Len: 1},
		{R: api.Bad, At: 4, Len: 2}, {R: top, At: 6, Len: 4}, {R: -1}, {R: top + 1}, {R: math.MinInt32}, {R: math.MaxInt32},
		{R: 0x39, At: -7, Len: -7}, {R: 0x200, At: 0x35, Len: 0x35}, {},
	}
	want := []int{2, 1, 0, 2, 255, 3, 0, 0, 0, 0, 1, 0, 0}
	if got := p.Each(l); !slices.Equal(got, want) {
		t.Errorf("P2.2: Each = %v, not %v", got, want)
	}
	if got := p.Each(nil); len(got) != 0 {
		t.Errorf("P2.2, R5: Each of no list = %v", got)
	}
	if got := p.Each([]api.Scalar{}); len(got) != 0 {
		t.Errorf("P2.2, R5: Each of nothing = %v", got)
	}
}

func TestNilTable(t *testing.T) {
	var p *prop.Table
	for _, r := range []int32{math.MinInt32, -1, 0, 0x35, 255, 256, top, top + 1, math.MaxInt32} {
		if got := p.Of(r); got != 0 {
			t.Errorf("R7: Of(%x) of a nil table = %d, not 0", r, got)
		}
	}
	if got := p.Each([]api.Scalar{{R: 0x41}, {R: -1}, {R: 0x35}}); !slices.Equal(got, []int{0, 0, 0}) {
		t.Errorf("R7: Each of a nil table = %v, not zeros", got)
	}
	if got := p.Each(nil); len(got) != 0 {
		t.Errorf("R7: Each of a nil table and no signs = %v", got)
	}
	if got := p.Blocks(); got != 0 {
		t.Errorf("R7: Blocks of a nil table = %d, not 0", got)
	}
}

// spare is a list with room behind it, and all of it for a later look.
func spare[T any](l []T, room T) (short, whole []T) {
	whole = append(slices.Clone(l), room, room, room)
	return whole[:len(l)], whole
}

func TestRangesAreNeitherChangedNorKept(t *testing.T) {
	for _, most := range []int{3, 2} { // the second one refuses them
		l, whole := spare([]api.Range{rg(0x30, 0x39, 1), rg(0x41, 0x5a, 2), rg(0x300, 0x8ff, 1)}, rg(-5, -6, -7))
		before := slices.Clone(whole)
		prop.Check(l, most)
		p, _ := prop.Make(l, most)
		if !slices.Equal(whole, before) {
			t.Errorf("R6: the ranges became %v", whole)
		}
		for i := range whole {
			whole[i] = rg(0x1000, 0x1fff, 9)
		}
		if most == 2 {
			continue
		}
		if p.Of(0x30) != 1 || p.Of(0x5a) != 2 || p.Of(0x400) != 1 || p.Of(0x1800) != 0 || p.Blocks() != 3 {
			t.Error("R6: the table hangs on the list that was handed in")
		}
	}
}

func TestSignsAreNeitherChangedNorKept(t *testing.T) {
	p := mustMake(t, []api.Range{rg(0x30, 0x39, 1), rg(0x41, 0x5a, 2)}, 3)
	l, whole := spare([]api.Scalar{{R: 0x30, At: 0, Len: 1}, {R: 0x41, At: 1, Len: 1}}, api.Scalar{R: 0x35, At: -1, Len: -1})
	before := slices.Clone(whole)
	one := p.Each(l)
	two := p.Each(l)
	if !slices.Equal(whole, before) {
		t.Errorf("R6: the signs became %v", whole)
	}
	one[0], one[1] = 77, 78
	_ = append(one, 79)
	if !slices.Equal(two, []int{1, 2}) || !slices.Equal(p.Each(l), []int{1, 2}) || p.Of(0x30) != 1 {
		t.Error("R6: two answers of Each share memory")
	}
}

func TestTablesAreApart(t *testing.T) {
	a := mustMake(t, []api.Range{rg(0x30, 0x39, 1)}, 3)
	b := mustMake(t, []api.Range{rg(0x35, 0x45, 2), rg(0x400, 0x4ff, 1)}, 3)
	if _, e := prop.Make([]api.Range{rg(0x30, 0x39, 3)}, 3); e != api.ErrTable {
		t.Errorf("P2.1: Make answered %d", e)
	}
	if a.Of(0x30) != 1 || a.Of(0x35) != 1 || a.Of(0x45) != 0 || a.Of(0x400) != 0 || a.Blocks() != 2 {
		t.Error("R8: a table changed when another one was made")
	}
	if b.Of(0x30) != 0 || b.Of(0x35) != 2 || b.Of(0x45) != 2 || b.Of(0x400) != 1 || b.Blocks() != 3 {
		t.Error("R8: a table hangs on one that was made earlier")
	}
}
