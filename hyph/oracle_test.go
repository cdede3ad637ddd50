package hyph_test

import (
	"math"
	"math/big"
	"slices"
	"strings"
	"testing"

	"stanza/api"
	"stanza/hyph"
	"stanza/pats"
	"stanza/scal"
)

// The tests of this file hold hyph against slow answers of another make: ranges are gone through one by one, with numbers of any size; each boundary is asked by itself; each pattern is held against each place of its word.

func slowCheck(l []api.Range) bool {
	if len(l) > 256 {
		return false
	}
	top := big.NewInt(0x10ffff)
	for i, g := range l {
		to := big.NewInt(int64(g.To))
		to.Add(to, big.NewInt(int64(g.Hi)))
		to.Sub(to, big.NewInt(int64(g.Lo)))
		rises := i == 0 || l[i-1].Hi < g.Lo
		if g.Lo < 0 || g.Hi < g.Lo || g.Hi > 0x10ffff || !rises || g.To < 0 || to.Cmp(top) > 0 {
			return false
		}
	}
	return true
}

// slow is what a Hyphens was made of.
type slow struct {
	letters     []api.Range
	left, right int
	api.Patterns
}

func (s slow) letter(r int32) (int32, bool) {
	for _, g := range s.letters {
		if g.Lo <= r && r <= g.Hi {
			return int32(g.To + int(r) - int(g.Lo)), true
		}
	}
	return 0, false
}

// value is that of one boundary of a word: what is told, or the greatest that a pattern has there.
func (s slow) value(word []int32, place int) uint8 {
	for _, p := range s.Words {
		if slices.Equal(p.Letters, word) {
			return p.Values[place]
		}
	}
	row := slices.Concat([]int32{46}, word, []int32{46})
	most := uint8(0)
	for _, p := range s.List {
		for i, v := range p.Values {
			from := place + 1 - i
			to := from + len(p.Letters)
			if from >= 0 && to <= len(row) && slices.Equal(row[from:to], p.Letters) {
				most = max(most, v)
			}
		}
	}
	return most
}

func (s slow) point(word []int32, place int) bool {
	return place >= s.left && len(word)-place >= s.right && s.value(word, place)&1 != 0
}

func (s slow) word(word []int32) []bool {
	points := []bool{}
	for place := range len(word) + 1 {
		points = append(points, s.point(word, place))
	}
	return points
}

// pointOf looks from a boundary both ways for the word in which it stands.
func (s slow) pointOf(l []api.Scalar, boundary int) bool {
	var word []int32
	ahead := 0
	for i := boundary - 1; i >= 0; i-- {
		r, ok := s.letter(l[i].R)
		if !ok {
			break
		}
		word = slices.Insert(word, 0, r)
		ahead++
	}
	for i := boundary; i < len(l); i++ {
		r, ok := s.letter(l[i].R)
		if !ok {
			break
		}
		word = append(word, r)
	}
	return s.point(word, ahead)
}

func (s slow) points(l []api.Scalar) []bool {
	points := []bool{}
	for boundary := range len(l) + 1 {
		points = append(points, s.pointOf(l, boundary))
	}
	return points
}

// slowNew tells what New must be of, or its fault.
func slowNew(text string, letters []api.Range, left, right int) (slow, api.Fault) {
	p, f := pats.Parse(text)
	if left < 1 || left > 24 || right < 1 || right > 24 {
		f = api.Fault{Code: api.ErrConfig}
	}
	if !slowCheck(letters) {
		f = api.Fault{Code: api.ErrTable}
	}
	return slow{letters: letters, left: left, right: right, Patterns: p}, f
}

// holdAgainst tells how many points a text has, and New's fault.
func holdAgainst(t *testing.T, text string, letters []api.Range, left, right int, signs []api.Scalar) (int, api.Fault) {
	t.Helper()
	if got := hyph.Check(letters); got != slowCheck(letters) {
		t.Fatalf("P9.1: %v: %v", letters, got)
	}
	s, want := slowNew(text, letters, left, right)
	h, f := hyph.New(text, letters, left, right)
	if f != want || (h == nil) != (f != api.Fault{}) {
		t.Fatalf("P9.1: %q, %v, %d, %d: fault %v, want %v", text, letters, left, right, f, want)
	}
	if h == nil {
		return 0, f
	}
	row := make([]int32, len(signs))
	for i, sign := range signs {
		row[i] = sign.R
		got, ok := h.Letter(sign.R)
		if want, is := s.letter(sign.R); got != want || ok != is {
			t.Fatalf("P9.2: %v: letter %x: %x, %v", letters, sign.R, got, ok)
		}
	}
	if got, want := h.Word(row), s.word(row); !slices.Equal(got, want) {
		t.Fatalf("P9.2: %q, %d, %d: word %v: %v, want %v", text, left, right, row, got, want)
	}
	got, wanted := h.Points(signs), s.points(signs)
	if !slices.Equal(got, wanted) {
		t.Fatalf("P9.2: %q, %v, %d, %d: points %v: %v, want %v", text, letters, left, right, row, got, wanted)
	}
	points := 0
	for _, p := range got {
		if p {
			points++
		}
	}
	return points, f
}

type dice uint64

func (d *dice) roll(n int) int {
	*d = *d*6364136223846793005 + 1442695040888963407
	return int(uint64(*d)>>33) % n
}

func (d *dice) pick(texts ...string) string { return texts[d.roll(len(texts))] }

// row is n of these pieces, one behind the other.
func (d *dice) row(n int, pieces ...string) string {
	var b strings.Builder
	for range n {
		b.WriteString(d.pick(pieces...))
	}
	return b.String()
}

// patterns is a text of patterns and words that are told, mostly right ones.
func (d *dice) patterns() string {
	var words []string
	for range d.roll(10) {
		word := d.row(1+d.roll(4), "a", "b", "c", "a1", "1b", "b2", "c3", "a4b")
		switch d.roll(8) {
		case 0:
			word = "." + strings.TrimLeft(word, "1")
		case 1:
			word = strings.TrimRight(word, "123") + "."
		case 2, 3, 4:
			word = d.row(1+d.roll(3), "a-", "b-", "ab-", "abc-") + d.pick("a", "b", "c", "bc")
		}
		words = append(words, word)
	}
	return strings.Join(words, " ")
}

// ranges are letters, mostly right ones.
func (d *dice) ranges() []api.Range {
	switch d.roll(6) {
	case 0:
		return nil
	case 1:
		return []api.Range{{Lo: 0, Hi: 0x10ffff, To: 0}}
	case 2:
		return folded()
	case 3:
		return []api.Range{{Lo: 'A', Hi: 'B', To: 'a'}, {Lo: 'C', Hi: 'C', To: 'c'}, {Lo: 'a', Hi: 'c', To: 'a'}, {Lo: api.Bad, Hi: api.Bad, To: 'b'}}
	case 4:
		return []api.Range{{Lo: '_', Hi: '_', To: '.'}, {Lo: 'a', Hi: 'c', To: 'a'}}
	}
	return []api.Range{{Lo: 'a', Hi: 'b', To: 'b'}, {Lo: 'c', Hi: 'c', To: 'a'}}
}

// TestAgainstSlow: many patterns, letters and texts.
func TestAgainstSlow(t *testing.T) {
	d := dice(3)
	cut, right := 0, 0
	seen := map[api.Errno]int{}
	for range 20000 {
		text, letters := d.patterns(), d.ranges()
		left, behind := []int{0, 1, 1, 1, 1, 2, 2, 3}[d.roll(8)], []int{1, 1, 1, 2, 3}[d.roll(5)]
		signs := scal.All([]byte(d.row(d.roll(16), "a", "b", "c", "a", "b", "ab", "abc", "bc", "A", "B", "C", " ", d.pick(" ", "-", "_", ".", "\xff"))))
		points, f := holdAgainst(t, text, letters, left, behind, signs)
		seen[f.Code]++
		if f == (api.Fault{}) {
			right++
		}
		if points > 0 {
			cut++
		}
	}
	if right < 5000 || cut < right/8 || cut > right*7/8 {
		t.Errorf("%d of %d right ones have points", cut, right)
	}
	for _, code := range []api.Errno{api.ErrConfig, api.ErrPattern, api.ErrTwice} {
		if seen[code] < 200 {
			t.Errorf("too few with %d: %v", code, seen)
		}
	}
}

// TestCheckAgainstSlow: ranges at the edges of what is right, alone and two by two.
func TestCheckAgainstSlow(t *testing.T) {
	ends := []int32{math.MinInt32, -1, 0, 1, 2, 0x10fffe, 0x10ffff, 0x110000, math.MaxInt32}
	tos := []int{math.MinInt, -1, 0, 1, 0x10fffd, 0x10fffe, 0x10ffff, 0x110000, 1 << 32, math.MaxInt - 0x10ffff, math.MaxInt - 1, math.MaxInt}
	var all []api.Range
	for _, lo := range ends {
		for _, hi := range ends {
			for _, to := range tos {
				all = append(all, api.Range{Lo: lo, Hi: hi, To: to})
			}
		}
	}
	right := 0
	for _, a := range all {
		holdAgainst(t, "", []api.Range{a}, 1, 1, nil)
		for _, b := range all {
			l := []api.Range{a, b}
			if got := hyph.Check(l); got != slowCheck(l) {
				t.Fatalf("P9.1: %v: %v", l, got)
			} else if got {
				right++
			}
		}
	}
	if right < 100 {
		t.Errorf("too few right ones: %d", right)
	}
}

// TestAllShort: all short texts, by all small distances.
func TestAllShort(t *testing.T) {
	rows := [][]int32{nil}
	for from := 0; len(rows) < 1000; {
		to := len(rows)
		for _, row := range rows[from:to] {
			for _, r := range []int32{'a', 'B', ' '} {
				rows = append(rows, append(slices.Clone(row), r))
			}
		}
		from = to
	}
	for _, text := range []string{"1a1 1b1", "a-b ab-a a-b-b 1a", ".a1 1b. b-a-b"} {
		for left := 1; left < 4; left++ {
			for right := 1; right < 4; right++ {
				for _, row := range rows {
					holdAgainst(t, text, folded(), left, right, numbered(row...))
				}
			}
		}
	}
}

func FuzzPoints(f *testing.F) {
	f.Add("hy1p ta-ble", []byte("hyphen TABLE"), int32('a'), int32('z'), int('a'), 2, 2)
	f.Add(".a1b b1a.", []byte("ab a\xffb"), int32(0), int32(0x10ffff), 0, 1, 1)
	f.Add("a-b a-b", []byte(""), int32(5), int32(4), -1, 0, 25)
	f.Fuzz(func(t *testing.T, text string, signs []byte, lo, hi int32, to, left, right int) {
		holdAgainst(t, text, []api.Range{{Lo: lo, Hi: hi, To: to}}, left, right, scal.All(signs[:min(len(signs), 100)]))
	})
}
