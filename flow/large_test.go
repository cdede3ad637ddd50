package flow_test

import (
	"strings"
	"testing"

	"stanza/api"
)

// P1: every int at every call, of flows of several texts.
func TestAllNumbers(t *testing.T) {
	for _, c := range edgeWays() {
		for _, text := range []string{"", "ab\tcd\n\u65e5 hyphen"} {
			x := start(t, made(t, rich()), c, text)
			for _, a := range ints {
				for _, b := range ints {
					_, e := x.flow.Byte(api.Spot{Row: a, Col: b})
					if right := 0 <= a && a < len(x.flow.Layout().Rows) && b >= 0; right != (e == api.OK) || !right && e != api.ErrRange {
						t.Errorf("P1: Byte of %d.%d: error %d", a, b, e)
					}
					if a < 0 || b < 0 || a > len(text) || b > len(text)-a {
						x.refuse(put(a, b, "a"), api.ErrEdit)
					}
				}
				for _, back := range []bool{false, true} {
					_, e := x.flow.Spot(a, back)
					if right := 0 <= a && a <= len(text); right != (e == api.OK) || !right && e != api.ErrRange {
						t.Errorf("P1: Spot of %d: error %d", a, e)
					}
				}
			}
		}
	}
}

// P1, P21.1: all texts of one byte, and all pairs of some.
func TestAllBytes(t *testing.T) {
	b := made(t, rich())
	x := start(t, b, way(1), "")
	for i := range 256 {
		x.edit(0, len(x.text), string([]byte{byte(i)}))
		for _, other := range []byte{0, 9, 10, 13, 32, 'a', 0x80, 0xcc, 0xe6, 0xf0, 0xff} {
			x.edit(1, len(x.text)-1, string([]byte{other}))
			x.edit(0, 0, string([]byte{other}))
			x.edit(0, 1, "")
		}
	}
}

// swap takes some bytes away, and puts about as many there; they are never too many.
func (d *dice) swap(x *followed, pieces []string) {
	x.Helper()
	at, ins := d.roll(len(x.text)+1), d.row(d.roll(4), pieces)
	del := min(d.roll(2*len(ins)+2), len(x.text)-at)
	if len(x.text)-del+len(ins) > api.MaxText {
		ins = ""
	}
	x.change(at, del, ins)
}

// P1, P21.3, P8: hundreds of changes of texts of as many bytes as may be.
func TestLarge(t *testing.T) {
	for _, told := range []struct {
		data   api.Data
		pieces []string
		way    api.Config
	}{
		{simple(), []string{"ab cd ef\n", "a b\n", "cde\n"}, best(6, 2)},
		{far(), farPieces(), way(9)},
		{rich(), richPieces(), best(30, 5)},
		{rich(), []string{"hyphen ", "table "}, way(17)},
		{simple(), []string{"\n"}, best(1, 0)},
		{simple(), []string{"a"}, way(1)},
	} {
		d := dice(5)
		x := start(t, made(t, told.data), told.way, strings.Repeat(d.row(300, told.pieces), api.MaxText)[:api.MaxText])
		for i := range 300 {
			d.swap(x, told.pieces)
			x.holdLayout()
			if i%100 == 50 {
				c := x.way
				c.Width += i % 3
				x.turn(c)
			}
		}
		x.hold()
	}
}

// P21.3: a text that is typed sign by sign, then taken away from its end.
func TestTyped(t *testing.T) {
	const typed = "A hyphen\u0301, a table:\r\n\t\u65e5\u672c xyxy\n\nnot banana xy-xy.\n"
	for _, c := range []api.Config{way(6), best(7, 3)} {
		x := start(t, made(t, rich()), c, "")
		for i := range len(typed) {
			x.edit(i, 0, typed[i:i+1])
		}
		for i := range len(typed) {
			x.edit(len(typed)-i-1, 1, "")
		}
		for i := range len(typed) {
			x.edit(0, 0, typed[len(typed)-i-1:len(typed)-i])
		}
		for range len(typed) {
			x.edit(0, 1, "")
		}
	}
}
