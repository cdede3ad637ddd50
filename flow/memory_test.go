package flow_test

import (
	"math"
	"slices"
	"strings"
	"testing"

	"stanza/api"
	"stanza/book"
	"stanza/flow"
)

const memoryText = "Hyphen a\u0301 table\r\n\u65e5\u672c \xff.\n"

func memoryWay() api.Config {
	return api.Config{Width: 5, Tab: 4, Mode: api.Best, Hyphen: 7, Pair: 9, Loose: math.Inf(1)}
}

// memoryStart is a flow of rich's book, with several parts.
func memoryStart(t *testing.T) *followed {
	t.Helper()
	x := start(t, made(t, rich()), memoryWay(), memoryText)
	x.rows(false, "Hy-3", "phen |4", "a\u0301 ta-5", "ble\r\n!3", "\u65e5|2", "\u672c \xff.\n!5")
	return x
}

// spoil puts a thing at all places of a list, its spare room included.
func spoil[T any](l []T, with T) {
	l = l[:cap(l)]
	for i := range l {
		l[i] = with
	}
}

// room is a list with spare room, in which something stands.
func room(text string) []byte {
	return append([]byte(text), "\u0301\x81\n\xff and more"...)[:len(text)]
}

// holdsRoom holds that a list and its spare room are what they were.
func holdsRoom(t *testing.T, what string, got []byte, text string) {
	t.Helper()
	if want := text + "\u0301\x81\n\xff and more"; string(got[:len(want)]) != want {
		t.Errorf("R6: %s became %q", what, got[:cap(got)])
	}
}

// R6: New's text isn't changed nor kept, spare room included.
func TestTextOfNew(t *testing.T) {
	for _, c := range []api.Config{memoryWay(), way(3)} {
		b := made(t, rich())
		text := room(memoryText)
		f, e := flow.New(b, c, text)
		if e != api.OK {
			t.Fatal("P21.1: error ", e)
		}
		x := &followed{t, f, b, c, memoryText}
		x.hold()
		holdsRoom(t, "New's text", text, memoryText)
		spoil(text, '\n')
		x.hold()
		x.edit(3, 2, "b\n")
		x.edit(0, 0, "")
		x.turn(way(4))
		if strings.Trim(string(text[:cap(text)]), "\n") != "" {
			t.Errorf("R6: New's text became %q", text[:cap(text)])
		}
	}
}

// R6: what a change puts there isn't changed nor kept, spare room included; nor is that of one that is refused.
func TestInsOfEdit(t *testing.T) {
	x := memoryStart(t)
	for _, at := range []int{0, 7, len(x.text) + 28, 3} {
		const comes = "b \u65e5\nc\u0301"
		ins := room(comes)
		want := api.OK
		if at > len(x.text) {
			want = api.ErrEdit
		}
		if e := x.flow.Edit(api.Edit{At: at, Del: 1, Ins: ins}); e != want {
			t.Fatal("P21.2: error ", e)
		}
		if want == api.OK {
			x.text = x.text[:at] + comes + x.text[at+1:]
		}
		x.hold()
		holdsRoom(t, "Ins", ins, comes)
		spoil(ins, '\n')
		x.hold()
		x.edit(len(x.text), 0, "d")
		x.turn(way(3 + at%3))
		if strings.Trim(string(ins[:cap(ins)]), "\n") != "" {
			t.Errorf("R6: Ins became %q", ins[:cap(ins)])
		}
	}
}

// R6: what is answered may be changed without anything coming of it.
func TestAnswersAreNew(t *testing.T) {
	x := memoryStart(t)
	row := api.Row{From: -1, To: -1, Cells: -1, End: 99}
	for i := range 4 {
		text, layout := x.flow.Text(), x.flow.Layout()
		others, like := x.flow.Text(), x.flow.Layout()
		spoil(text, '\n')
		spoil(layout.Rows, row)
		if string(others) != x.text || !same(like, x.flow.Layout()) {
			t.Errorf("R6: an answer was spoilt with another one: %q, %v", others, like)
		}
		x.hold()
		_ = append(x.flow.Text(), "and more"...)
		_ = append(x.flow.Layout().Rows, row, row)
		x.hold()
		x.edit(i, 1, "a b\n")
		x.turn(way(3 + i))
		x.turn(memoryWay())
	}
	x.edit(0, len(x.text), "")
	spoil(x.flow.Layout().Rows, row)
	spoil(x.flow.Text(), 'a')
	x.hold()
}

// R6: a flow's text may be put into it, and into another one.
func TestTextComesBack(t *testing.T) {
	x := memoryStart(t)
	text := x.flow.Text()
	if e := x.flow.Edit(api.Edit{At: 3, Ins: text}); e != api.OK {
		t.Fatal("P21.2: error ", e)
	}
	x.text = x.text[:3] + string(text) + x.text[3:]
	x.hold()
	text = x.flow.Text()
	y, e := flow.New(x.book, x.way, text)
	if e != api.OK {
		t.Fatal("P21.1: error ", e)
	}
	spoil(text, 'a')
	other := &followed{t, y, x.book, x.way, x.text}
	other.hold()
	other.edit(1, 3, "")
	x.hold()
	x.edit(0, 9, "x")
	other.hold()
}

// R8: two flows of one book don't touch one another, nor does the book change.
func TestTwoFlows(t *testing.T) {
	b := made(t, rich())
	x, y := start(t, b, memoryWay(), memoryText), start(t, b, memoryWay(), memoryText)
	p, _ := b.Para([]byte(memoryText))
	d := dice(2)
	for i := range 60 {
		d.step(x, richPieces(), 12)
		y.hold()
		if i%3 > 0 {
			d.step(y, richPieces(), 12)
			x.hold()
		}
		if i%10 == 0 {
			y.edit(0, len(y.text), x.text)
			y.turn(x.way)
			y.turn(way(1 + i%7))
			x.edit(0, 0, "")
		}
	}
	memoryStart(t)
	if q, e := b.Para([]byte(memoryText)); e != api.OK || !slices.Equal(p.Clusters, q.Clusters) || !slices.Equal(p.Opps, q.Opps) {
		t.Errorf("R8: the book's Para became %v", q)
	}
}

// R8: what is asked changes no answer.
func TestAsksChangeNothing(t *testing.T) {
	x := memoryStart(t)
	for range 3 {
		x.flow.Spot(99, true)
		x.flow.Byte(api.Spot{Row: -1})
		x.refuse(put(-1, 0, "a"), api.ErrEdit)
		x.refuseWay(way(0))
		none(t, "no way", x.book, way(0), nil, api.ErrConfig)
		x.hold()
		x.rows(false, "Hy-3", "phen |4", "a\u0301 ta-5", "ble\r\n!3", "\u65e5|2", "\u672c \xff.\n!5")
	}
}

// R5: lists that are empty and lists that are nil are the same.
func TestNilAndEmpty(t *testing.T) {
	for _, ins := range [][]byte{nil, {}, []byte("abc")[:0]} {
		x := start(t, made(t, simple()), way(3), "ab cd")
		if e := x.flow.Edit(api.Edit{At: 1, Del: 1, Ins: ins}); e != api.OK {
			t.Errorf("R5: error %d", e)
		}
		x.text = "a cd"
		x.hold()
		if e := x.flow.Edit(api.Edit{Del: 4, Ins: ins}); e != api.OK {
			t.Errorf("R5: error %d", e)
		}
		x.text = ""
		x.hold()
	}
}

var ints = []int{math.MinInt, math.MinInt + 1, -4096, -1, 0, 1, 2, 3, 7, 4096, 4097, math.MaxInt - 1, math.MaxInt}

// R7: a nil flow answers ErrNil and zeros, whatever it is asked; so does one that New didn't make: it holds nothing, too.
func TestNoFlow(t *testing.T) {
	for _, f := range []*flow.Flow{nil, {}} {
		for range 2 {
			if text, l := f.Text(), f.Layout(); len(text) != 0 || l.Rows != nil || l.Loose {
				t.Errorf("R7: %q, %v", text, l)
			}
			for _, c := range append(wrongWays(), edgeWays()...) {
				if e := f.Turn(c); e != api.ErrNil {
					t.Errorf("R7: Turn to %v: error %d", c, e)
				}
			}
			for _, a := range ints {
				for _, ins := range []int{0, 1, api.MaxText, api.MaxText + 1} {
					if e := f.Edit(api.Edit{At: a, Del: a, Ins: make([]byte, ins)}); e != api.ErrNil {
						t.Errorf("R7: Edit at %d: error %d", a, e)
					}
				}
				for _, back := range []bool{false, true} {
					if s, e := f.Spot(a, back); e != api.ErrNil || s != (api.Spot{}) {
						t.Errorf("R7: Spot of %d: %v, error %d", a, s, e)
					}
				}
				for _, b := range ints {
					if at, e := f.Byte(api.Spot{Row: a, Col: b}); e != api.ErrNil || at != 0 {
						t.Errorf("R7: Byte of %d.%d: %d, error %d", a, b, at, e)
					}
				}
			}
		}
	}
}

// P1: a book that New didn't make, and its flow, answer something.
func TestZeroBook(t *testing.T) {
	b := &book.Book{}
	for _, text := range []string{"", "a b\n", strings.Repeat("a", api.MaxText)} {
		x := start(t, b, way(1), text)
		x.turn(best(3, 1))
		x.edit(0, len(text), "c\n")
	}
	none(t, "4097 bytes", b, way(1), make([]byte, api.MaxText+1), api.ErrText)
}
