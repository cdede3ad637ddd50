package flow_test

import (
	"strconv"
	"strings"
	"testing"

	"stanza/api"
	"stanza/book"
)

// parts are the signs that rolled tables speak of, each a range of its own.
func parts() []api.Range {
	return []api.Range{
		{Lo: 9, Hi: 9}, {Lo: 10, Hi: 10}, {Lo: 13, Hi: 13}, {Lo: 32, Hi: 32}, {Lo: '-', Hi: '-'}, {Lo: 'A', Hi: 'Z'}, {Lo: 'a', Hi: 'a'}, {Lo: 'b', Hi: 'z'},
		{Lo: 0xe9, Hi: 0xe9}, {Lo: 0x301, Hi: 0x301}, {Lo: 0x65e5, Hi: 0x65e5}, {Lo: api.Bad, Hi: api.Bad}, {Lo: 0x1f600, Hi: 0x1f64f},
	}
}

// pieces are what rolled texts are made of: a sign or several of each range, and bytes that are none.
func pieces() []string {
	return []string{"a", "b", "ab", "ba", "bab", "A", "B", " ", " ", "  ", "\t", "\n", "\r\n", "-", "\u00e9", "\u0301", "\u65e5", "\U0001f600", "\xff", "\xe6\x97", "\xf0\x9f\x98"}
}

// table is some of the ranges, most of them, each with a number below most.
func (d *dice) table(most int) []api.Range {
	var l []api.Range
	for _, g := range parts() {
		if d.roll(8) > 0 {
			g.To = d.roll(most)
			l = append(l, g)
		}
	}
	return l
}

// side is what stands on one side of a boundary; most often it looks further than a thing.
func (d *dice) side(classes int) string {
	var row []string
	for range d.roll(4) {
		c := "c" + strconv.Itoa(d.roll(classes))
		thing := []string{c, c, ".", "[^ " + c + "]", "(" + c + "|. " + c + ")"}[d.roll(5)]
		row = append(row, thing+[]string{"", "", "*", "+", "?"}[d.roll(5)])
	}
	return strings.Join(row, " ")
}

// rules is rules over some classes; what the others don't say the last one does, if it isn't nothing.
func (d *dice) rules(classes int, does []string, last string) string {
	var b strings.Builder
	b.WriteString("class")
	for c := range classes {
		b.WriteString(" c" + strconv.Itoa(c))
	}
	b.WriteString(";")
	if d.roll(3) == 0 {
		b.WriteString(" join c" + strconv.Itoa(d.roll(classes)) + " / c" + strconv.Itoa(d.roll(classes)) + ";")
	}
	for range d.roll(6) {
		b.WriteString(" " + does[d.roll(len(does))] + " " + d.side(classes) + " / " + d.side(classes) + ";")
	}
	return b.String() + last
}

// data is right data.
func (d *dice) data() api.Data {
	marks, breaks := 1+d.roll(3), 2+d.roll(4)
	return api.Data{
		Marks:      d.table(marks),
		Breaks:     d.table(breaks),
		Cells:      d.table(3),
		Letters:    [][]api.Range{nil, letters(), {{Lo: 'a', Hi: 'b', To: 'a'}, {Lo: 0xe9, Hi: 0xe9, To: 'b'}}}[d.roll(3)],
		MarkRules:  d.rules(marks, []string{"keep", "keep", "may", "must"}, []string{"", " may . / .;"}[d.roll(2)]),
		BreakRules: d.rules(breaks, []string{"keep", "keep", "may", "may", "must"}, []string{"", " keep . / .;", " keep . / .;"}[d.roll(3)]),
		Patterns:   []string{"", "1b1", "a1b b1a", "1a 2ab1 .b1 ba-b", "a-b ab-a 1a1b1"}[d.roll(5)],
		Left:       1 + d.roll(2),
		Right:      1 + d.roll(2),
	}
}

// step is a change or another way, rolled; some are refused.
func (d *dice) step(x *followed, pieces []string, most int) {
	x.Helper()
	n := len(x.text)
	at := d.roll(n + 1)
	switch d.roll(12) {
	case 0:
		x.turn(d.way())
	case 1:
		c := x.way
		c.Loose = looses[d.roll(len(looses))]
		x.turn(c)
	case 2:
		x.refuse(put(at, n-at+1+d.roll(3), "a\n"), api.ErrEdit)
	case 3:
		x.refuseWay(api.Config{Width: 1 + d.roll(9), Tab: d.roll(2) * 65})
	case 4:
		x.edit(0, n, d.row(d.roll(most), pieces))
	case 5:
		x.edit(at, min(d.roll(12), n-at), "")
	case 6:
		// What the text has elsewhere comes here too.
		from := d.roll(n + 1)
		x.edit(at, 0, x.text[from:min(from+d.roll(9), n)])
	default:
		x.edit(at, min(d.roll(4), n-at), d.row(d.roll(4), pieces))
	}
	if len(x.text) > 8*most {
		x.edit(most, len(x.text)-2*most, "")
	}
}

// P21.3, P8: many rows of changes, by many data, each step held against a new flow.
func TestRolled(t *testing.T) {
	d := dice(21)
	seen := map[api.Opp]int{}
	loose, tight := 0, 0
	for range 1000 {
		x := start(t, made(t, d.data()), d.way(), d.row(d.roll(20), pieces()))
		for range 25 {
			d.step(x, pieces(), 12)
			l := x.flow.Layout()
			for _, r := range l.Rows {
				seen[r.End]++
			}
			if l.Loose {
				loose++
			} else if x.way.Mode == api.Best && len(l.Rows) > 2 {
				tight++
			}
		}
	}
	for _, end := range []api.Opp{api.May, api.Must, api.Hyphen, api.Cut} {
		if seen[end] < 1000 {
			t.Errorf("too few ends of %d: %v", end, seen)
		}
	}
	if loose < 500 || tight < 500 {
		t.Errorf("too few of one kind: %d loose, %d not", loose, tight)
	}
}

// farPieces are what far's rules speak of, with several parts a text.
func farPieces() []string {
	return []string{"a", "b", "ab", "abk", "abkc", "k", "c", "d", " ", " ", "\n", "ab c\n", "ab c\n", "!", "?", "#", "<", ">", "x"}
}

// richPieces are what rich's rules and patterns speak of.
func richPieces() []string {
	return []string{"hyphen ", "table ", "a ", "b\n", "not ", "xy", "-", "e\u0301t\u00e9 ", "\u65e5\u672c", "Table\r\n", "\n", "\r", "\t", "\xff", "\xcc", "\x81", "a b\n"}
}

// P21.3, P8: long rows of changes of one flow, by rules that look far.
func TestLongRows(t *testing.T) {
	for _, told := range []struct {
		data   api.Data
		pieces []string
	}{{simple(), []string{"a", "b ", " ", "\n", "ab c\n"}}, {far(), farPieces()}, {rich(), richPieces()}} {
		d := dice(8)
		b := made(t, told.data)
		for range 6 {
			x := start(t, b, d.way(), d.row(d.roll(30), told.pieces))
			for range 150 {
				d.step(x, told.pieces, 15)
			}
		}
	}
}

// fuzzed is what a fuzzed number says of the changes: the book, and its pieces.
func fuzzed(n byte) (api.Data, []string) {
	switch n % 4 {
	case 0:
		return simple(), []string{"a", " ", "\n"}
	case 1:
		return far(), farPieces()
	case 2:
		return rich(), richPieces()
	}
	d := dice(n)
	return d.data(), pieces()
}

func FuzzFlow(f *testing.F) {
	f.Add(byte(0), []byte("ab cd\ne"), []byte("\x02\x01\x00\x00\x09\x31\x00\x00\xff\x03\x08\x01"))
	f.Add(byte(1), []byte("ab cd\nab cd"), []byte("\x00\x00\x01\x0f\x06\x00\x01\x0d\x03\x02\x02\x10"))
	f.Add(byte(2), []byte("a table\r\n\u65e5 a\u0301"), []byte("\x07\x01\x01\x05\x08\x00\x02\x0a\xff\x01\x05\x09"))
	for n := range byte(12) {
		f.Add(4*n+3, []byte("ab ba\n\xe9\tab\u0301"), []byte("\x05\x02\x02\x0b\x01\x00\x01\x09\xfe\x07\x03\x02"))
	}
	f.Fuzz(func(t *testing.T, n byte, text, steps []byte) {
		data, pieces := fuzzed(n)
		b, fault := book.New(data)
		if fault != (api.Fault{}) {
			t.Skip()
		}
		x := start(t, b, api.Config{Width: 1 + int(n)%9, Tab: 1 + int(n)%5, Mode: api.Mode(n / 4 % 2), Loose: 1}, string(text[:min(len(text), 60)]))
		for i := 0; i+3 < len(steps) && i < 120; i += 4 {
			s := steps[i : i+4]
			if s[0] >= 0xf0 {
				x.turn(api.Config{Width: 1 + int(s[1])%12, Tab: 1 + int(s[2])%9, Mode: api.Mode(s[0] % 2), Hyphen: int(s[3]) * 100, Pair: int(s[2]) * 1000, Loose: looses[int(s[3])%len(looses)]})
				continue
			}
			at := int(s[0]) % (len(x.text) + 1)
			x.edit(at, min(int(s[1]), len(x.text)-at), strings.Repeat(pieces[int(s[3])%len(pieces)], int(s[2]%3)))
		}
	})
}
