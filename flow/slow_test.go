package flow_test

import (
	"math"
	"slices"
	"testing"

	"stanza/api"
	"stanza/book"
	"stanza/flow"
	"stanza/lines"
	"stanza/place"
)

// The tests of this package follow a flow by a slow one, which keeps nothing but a text and a way: each answer is made anew, from the text's bytes on, by the layers below.

// followed is a flow, and the text and the way that it should have.
type followed struct {
	*testing.T
	flow *flow.Flow
	book *book.Book
	way  api.Config
	text string
}

// start is New of what is right.
func start(t *testing.T, b *book.Book, c api.Config, text string) *followed {
	t.Helper()
	f, e := flow.New(b, c, []byte(text))
	if f == nil || e != api.OK {
		t.Fatalf("P21.1: %q by %v: error %d", text, c, e)
	}
	x := &followed{t, f, b, c, text}
	x.hold()
	return x
}

// edit is a change that is right; behind it all answers are held.
func (x *followed) edit(at, del int, ins string) {
	x.Helper()
	x.change(at, del, ins)
	x.hold()
}

// change is a change that is right.
func (x *followed) change(at, del int, ins string) {
	x.Helper()
	if e := x.flow.Edit(put(at, del, ins)); e != api.OK {
		x.Fatalf("P21.2: %q: At %d, Del %d, Ins %q: error %d", x.text, at, del, ins, e)
	}
	x.text = x.text[:at] + ins + x.text[at+del:]
}

// turn is a way that is right; behind it all answers are held.
func (x *followed) turn(c api.Config) {
	x.Helper()
	if e := x.flow.Turn(c); e != api.OK {
		x.Fatalf("P21.2: Turn to %v: error %d", c, e)
	}
	x.way = c
	x.hold()
}

// refuse is a change that is refused; behind it all answers are held to be what they were.
func (x *followed) refuse(e api.Edit, want api.Errno) {
	x.Helper()
	if got := x.flow.Edit(e); got != want {
		x.Errorf("P21.2: %d bytes: At %d, Del %d, %d bytes: error %d, want %d", len(x.text), e.At, e.Del, len(e.Ins), got, want)
	}
	x.hold()
}

// refuseWay is a way that is none; behind it all answers are held to be what they were.
func (x *followed) refuseWay(c api.Config) {
	x.Helper()
	if got := x.flow.Turn(c); got != api.ErrConfig {
		x.Errorf("P21.2: Turn to %v: error %d", c, got)
	}
	x.hold()
}

// rows holds the layout as told writes it.
func (x *followed) rows(isLoose bool, want ...string) {
	x.Helper()
	l := x.flow.Layout()
	if got := told(x.text, l.Rows); l.Loose != isLoose || !slices.Equal(got, want) {
		x.Errorf("P21.1, P21.3: %q by %v: %q, %v, want %q, %v", x.text, x.way, got, l.Loose, want, isLoose)
	}
}

// places is the map of the text's lines, made anew.
func (x *followed) places() *place.Map {
	p, _ := x.book.Para([]byte(x.text))
	l, _ := lines.Break(p, x.way)
	return place.Make(p, l, x.way.Tab)
}

// holdLayout holds Text and Layout against what the book answers.
func (x *followed) holdLayout() {
	x.Helper()
	if got := x.flow.Text(); string(got) != x.text {
		x.Fatalf("P21.1, P21.3: Text %q, want %q", got, x.text)
	}
	want, e := x.book.Lay([]byte(x.text), x.way)
	if got := x.flow.Layout(); e != api.OK || !same(got, want) {
		x.Fatalf("P21.1, P21.3, P8: %q by %v: %v, want %v, %d", x.text, x.way, got, want, e)
	}
}

// hold holds all answers against slow ones, and against those of a new flow.
func (x *followed) hold() {
	x.Helper()
	x.holdLayout()
	fresh, e := flow.New(x.book, x.way, []byte(x.text))
	if e != api.OK || string(fresh.Text()) != x.text || !same(fresh.Layout(), x.flow.Layout()) {
		x.Fatalf("P21.3, P8: %q by %v: a new one: %q, %v, error %d", x.text, x.way, fresh.Text(), fresh.Layout(), e)
	}
	slow := x.places()
	x.holdSpots(fresh, slow)
	x.holdBytes(fresh, slow)
}

// holdSpots holds Spot of each byte, and of some that aren't there.
func (x *followed) holdSpots(fresh *flow.Flow, slow *place.Map) {
	x.Helper()
	n := len(x.text)
	ask := []int{math.MinInt, -2, n + 2, math.MaxInt}
	for at := -1; at <= n+1; at++ {
		ask = append(ask, at)
	}
	for _, at := range ask {
		for _, back := range []bool{false, true} {
			got, e := x.flow.Spot(at, back)
			want, wanted := slow.Spot(at, back)
			anew, f := fresh.Spot(at, back)
			if got != want || e != wanted || got != anew || e != f || (e != api.OK) != (at < 0 || at > n) {
				x.Fatalf("P21.1, P21.3, P8: %q by %v: Spot of %d, %v: %v, %d, want %v, %d; a new one %v, %d", x.text, x.way, at, back, got, e, want, wanted, anew, f)
			}
		}
	}
}

// holdBytes holds Byte of each row's columns, and of some that aren't there.
func (x *followed) holdBytes(fresh *flow.Flow, slow *place.Map) {
	x.Helper()
	rows := x.flow.Layout().Rows
	for row := -1; row <= len(rows); row++ {
		most := 1
		if 0 <= row && row < len(rows) {
			most = x.column(rows[row]) + 2
		}
		ask := []int{math.MinInt, math.MaxInt}
		for col := -1; col <= most; col++ {
			ask = append(ask, col)
		}
		for _, col := range ask {
			s := api.Spot{Row: row, Col: col}
			got, e := x.flow.Byte(s)
			want, wanted := slow.Byte(s)
			anew, f := fresh.Byte(s)
			if got != want || e != wanted || got != anew || e != f || (e != api.OK) != (row < 0 || row >= len(rows) || col < 0) {
				x.Fatalf("P21.1, P21.3, P8: %q by %v: Byte of %v: %d, %d, want %d, %d; a new one %d, %d", x.text, x.way, s, got, e, want, wanted, anew, f)
			}
		}
	}
}

// column is a bound for the columns of a row.
func (x *followed) column(r api.Row) int {
	col := 0
	for _, b := range []byte(x.text[r.From:r.To]) {
		if b == '\t' {
			col += x.way.Tab
		} else {
			col++
		}
	}
	return min(col, 200)
}

func same(a, b api.Layout) bool { return a.Loose == b.Loose && slices.Equal(a.Rows, b.Rows) }
