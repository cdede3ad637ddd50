package book_test

import (
	"math"
	"slices"
	"strconv"
	"strings"
	"testing"

	"stanza/api"
	"stanza/book"
)

// parts are the signs that rolled tables speak of, each a range of its own.
func parts() []api.Range {
	return []api.Range{
		{Lo: 9, Hi: 9}, {Lo: 10, Hi: 10}, {Lo: 13, Hi: 13}, {Lo: 32, Hi: 32}, {Lo: '-', Hi: '-'}, {Lo: 'A', Hi: 'Z'}, {Lo: 'a', Hi: 'a'}, {Lo: 'b', Hi: 'z'},
		{Lo: 0xe9, Hi: 0xe9}, {Lo: 0x301, Hi: 0x301}, {Lo: 0x65e5, Hi: 0x65e5}, {Lo: api.Bad, Hi: api.Bad}, {Lo: 0x1f600, Hi: 0x1f64f},
	}
}

// pieces are what rolled texts are made of: a sign or several of each range, and bytes that are none.
func pieces() []string {
	return []string{"a", "b", "ab", "ba", "bab", "A", "B", " ", " ", "  ", "\t", "\n", "\r\n", "-", "\u00e9", "\u0301", "\u65e5", "\U0001f600", "\xff", "\xe6\x97", "\xf0\x9f\x98"}
}

// table is some of the ranges, most of them, each with a number below most.
func (d *dice) table(most int) []api.Range {
	var l []api.Range
	for _, g := range parts() {
		if d.roll(8) > 0 {
			g.To = d.roll(most)
			l = append(l, g)
		}
	}
	return l
}

// side is what stands on one side of a boundary.
func (d *dice) side(classes int) string {
	var rows []string
	for range 1 + d.roll(2) {
		var row []string
		for range d.roll(3) {
			c := "c" + strconv.Itoa(d.roll(classes))
			thing := []string{c, c, ".", "[^ " + c + "]", "(" + c + "|. " + c + ")", "[]"}[d.roll(6)]
			row = append(row, thing+[]string{"", "", "", "*", "+", "?"}[d.roll(6)])
		}
		rows = append(rows, strings.Join(row, " "))
	}
	return strings.Join(rows, " | ")
}

// rules is rules over some classes; what the others don't say the last one does, if it isn't nothing.
func (d *dice) rules(classes int, does []string, last string) string {
	var b strings.Builder
	b.WriteString("class")
	for c := range classes {
		b.WriteString(" c" + strconv.Itoa(c))
	}
	b.WriteString(";")
	if d.roll(3) == 0 {
		b.WriteString(" join c" + strconv.Itoa(d.roll(classes)) + " / c" + strconv.Itoa(d.roll(classes)) + " c" + strconv.Itoa(d.roll(classes)) + ";")
	}
	if d.roll(3) == 0 {
		b.WriteString(" treat c" + strconv.Itoa(d.roll(classes)) + " = c" + strconv.Itoa(d.roll(classes)) + ";")
	}
	for range d.roll(5) {
		b.WriteString(" " + does[d.roll(len(does))] + " " + d.side(classes) + " / " + d.side(classes) + ";")
	}
	return b.String() + last
}

// data is right data.
func (d *dice) data() api.Data {
	marks, breaks := 1+d.roll(3), 1+d.roll(4)
	return api.Data{
		Marks:      d.table(marks),
		Breaks:     d.table(breaks),
		Cells:      d.table(3),
		Letters:    [][]api.Range{nil, {{Lo: 'A', Hi: 'Z', To: 'a'}, {Lo: 'a', Hi: 'z', To: 'a'}}, {{Lo: 'a', Hi: 'b', To: 'a'}, {Lo: 0xe9, Hi: 0xe9, To: 'b'}}}[d.roll(3)],
		MarkRules:  d.rules(marks, []string{"keep", "keep", "may", "must"}, ""),
		BreakRules: d.rules(breaks, []string{"keep", "keep", "may", "may", "must"}, []string{"", " keep . / .;", " keep . / .;"}[d.roll(3)]),
		Patterns:   []string{"", "1b1", "a1b b1a", "1a 2ab1 .b1 ba-b", "a-b ab-a 1a1b1"}[d.roll(5)],
		Left:       1 + d.roll(2),
		Right:      1 + d.roll(2),
	}
}

func (d *dice) way() api.Config {
	prices := []int{0, 0, 1, 100, 12000, 656000, api.MaxCost}
	return api.Config{
		Width: 1 + d.roll(12), Tab: 1 + d.roll(8),
		Hyphen: prices[d.roll(len(prices))], Pair: prices[d.roll(len(prices))],
		Loose: looses[d.roll(len(looses))],
	}
}

// wrongData is data that most often has one fault or several.
func (d *dice) wrongData() api.Data {
	data := d.data()
	wrong := []change{
		marks("class c0 c1;"), marks(""), marks("class c0; keep c1 / ;"), breaks("class c0;"), breaks("class A A;"), breaks("keep"),
		func(x *api.Data) { x.Marks = d.table(4) }, func(x *api.Data) { x.Breaks = d.table(6) }, func(x *api.Data) { x.Cells = d.table(4) },
		func(x *api.Data) { x.Marks = append(parts(), parts()...) }, lettersOf(api.Range{Lo: 5, Hi: 4}),
		distances(0, 5), distances(5, 25), patterns("a a1- b"), patterns("ba a-b a-b"),
	}
	for range d.roll(3) {
		wrong[d.roll(len(wrong))](&data)
	}
	return data
}

// P3, P20.1: data of which some is wrong is refused as its parts' chapters say, or makes a book.
func TestBuiltOrRefused(t *testing.T) {
	d := dice(20)
	seen := map[api.Errno]int{}
	for range 3000 {
		data := d.wrongData()
		s, want := slowNew(data)
		b, f := book.New(data)
		if f != want || (b == nil) != (want.Code != api.OK) {
			t.Fatalf("P3, P20.1: fault %v, want %v: %v", f, want, data)
		}
		seen[f.Code]++
		if b != nil {
			hold(t, s, b, []byte(d.row(d.roll(8), pieces())), d.way())
		}
	}
	for _, code := range []api.Errno{api.OK, api.ErrName, api.ErrParse, api.ErrTwice, api.ErrTable, api.ErrConfig, api.ErrPattern} {
		if seen[code] < 50 {
			t.Errorf("too few with %d: %v", code, seen)
		}
	}
}

// P4, P5, P6, P20.2, P20.3: many texts, by many data and ways.
func TestAgainstSlow(t *testing.T) {
	d := dice(4)
	differ, loose, all := 0, 0, 0
	seen := map[api.Opp]int{}
	for range 1500 {
		data := d.data()
		s, b := madeSlow(t, data), made(t, data)
		for range 4 {
			text := []byte(d.row(d.roll(24), pieces()))
			for range 3 {
				c := d.way()
				other, isLoose := hold(t, s, b, text, c)
				all++
				if other {
					differ++
				}
				if isLoose {
					loose++
				}
				l, _ := b.Lay(text, c)
				for _, r := range l.Rows {
					seen[r.End]++
				}
			}
		}
	}
	if differ < all/50 || loose < all/10 || loose > all*9/10 {
		t.Errorf("of %d texts %d differ by mode, %d are loose", all, differ, loose)
	}
	for _, end := range []api.Opp{api.May, api.Must, api.Hyphen, api.Cut} {
		if seen[end] < 1000 {
			t.Errorf("too few ends of %d: %v", end, seen)
		}
	}
}

// allTexts gives all texts of up to so many pieces.
func allTexts(most int, pieces []string, give func(text string)) {
	texts := []string{""}
	for range most {
		var longer []string
		for _, text := range texts {
			give(text)
			for _, piece := range pieces {
				longer = append(longer, text+piece)
			}
		}
		texts = longer
	}
	for _, text := range texts {
		give(text)
	}
}

// P4, P5, P6: all short texts of a few signs.
func TestAllShort(t *testing.T) {
	for _, of := range []struct {
		data   api.Data
		most   int
		pieces []string
	}{
		{simple(), 6, []string{"a", "b", " ", "\n"}},
		{rich(), 4, []string{"a", "x", " ", "-", "\n", "\r", "\u0301", "\u65e5"}},
		{rich(), 4, []string{"xy", "na", " ", "\t", "\u00e9", "ta", "ble"}},
	} {
		s, b := madeSlow(t, of.data), made(t, of.data)
		allTexts(of.most, of.pieces, func(text string) {
			for width := 1; width <= 4; width++ {
				hold(t, s, b, []byte(text), api.Config{Width: width, Tab: 3, Pair: 50, Loose: looses[len(text)*width%len(looses)]})
			}
		})
	}
}

// P4, P5, P6: many longer texts, by the data that has all there is.
func TestLonger(t *testing.T) {
	s, b := madeSlow(t, rich()), made(t, rich())
	words := []string{"hyphen ", "table ", "a ", "not ", "banana ", "xy-xy ", "e\u0301t\u00e9 ", "\u65e5\u672c", "Table\r\n", "\n", "\t", "\xff", "hyphyphyp "}
	d := dice(6)
	for range 200 {
		c := d.way()
		c.Width += d.roll(12)
		hold(t, s, b, []byte(d.row(d.roll(60), words)), c)
	}
}

func FuzzLay(f *testing.F) {
	for _, d := range []api.Data{simple(), rich()} {
		f.Add(d.MarkRules, d.BreakRules, d.Patterns, []byte{0, 0, 1, 0, 2, 3}, []byte("Hyphen table\r\n\u65e5 a\u0301"), uint16(5), uint8(7), 1.0)
	}
	d := dice(9)
	for range 20 {
		data := d.data()
		f.Add(data.MarkRules, data.BreakRules, data.Patterns, []byte(d.row(13, []string{"\x00", "\x01", "\x02"})), []byte(d.row(10, pieces())), uint16(d.roll(9)), uint8(d.roll(9)), looses[d.roll(len(looses))])
	}
	f.Fuzz(func(t *testing.T, marks, breaks, patterns string, tos, text []byte, width uint16, tab uint8, most float64) {
		data := api.Data{MarkRules: marks, BreakRules: breaks, Patterns: patterns, Letters: []api.Range{{Lo: 'A', Hi: 'Z', To: 'a'}, {Lo: 'a', Hi: 'z', To: 'a'}}, Left: 1, Right: 1}
		tables := []*[]api.Range{&data.Marks, &data.Breaks, &data.Cells}
		for i, to := range tos[:min(len(tos), 3*len(parts()))] {
			g := parts()[i/3]
			g.To = int(to % 32)
			*tables[i%3] = append(*tables[i%3], g)
		}
		s, wanted := slowNew(data)
		b, got := book.New(data)
		if got != wanted || (b == nil) != (wanted.Code != api.OK) {
			t.Fatalf("P20.1: fault %v, want %v", got, wanted)
		}
		if b != nil {
			hold(t, s, b, slices.Clone(text[:min(len(text), 60)]), api.Config{Width: 1 + int(width), Tab: 1 + int(tab)%api.MaxTab, Hyphen: int(tab) * 1000, Pair: int(math.Abs(float64(width))), Loose: most})
		}
	})
}
