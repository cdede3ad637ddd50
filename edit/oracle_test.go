package edit_test

import (
	"math"
	"strings"
	"testing"

	"stanza/api"
	"stanza/edit"
)

// The tests of this file hold all calls against slow ones of another make: a text is gone through byte by byte.

// slowSplice asks of each byte whether it goes, and of each boundary whether something comes there.
func slowSplice(b []byte, e api.Edit) (after, went []byte) {
	for i := 0; i <= len(b); i++ {
		if i == e.At {
			after = append(after, e.Ins...)
		}
		switch {
		case i == len(b):
		case i < e.At || i-e.At >= e.Del:
			after = append(after, b[i])
		default:
			went = append(went, b[i])
		}
	}
	return after, went
}

// hold holds all calls of a text and a change against slow ones, and that what takes it back does; it answers how Check does.
func hold(t *testing.T, b []byte, e api.Edit) api.Errno {
	t.Helper()
	want := slowCheck(len(b), e)
	if got := edit.Check(len(b), e); got != want {
		t.Fatalf("P19.1: Check(%d): At %d, Del %d, %d bytes: %d, want %d", len(b), e.At, e.Del, len(e.Ins), got, want)
	}
	if want != api.OK {
		refused(t, string(b), e, want)
		return want
	}
	after, went := slowSplice(b, e)
	got, code := edit.Splice(b, e)
	if code != api.OK || string(got) != string(after) {
		t.Fatalf("P19.1: Splice(%q), %v: %q, %d, want %q", b, e, got, code, after)
	}
	back, code := edit.Undo(b, e)
	if code != api.OK || !same(back, api.Edit{At: e.At, Del: len(e.Ins), Ins: went}) {
		t.Fatalf("P19.1: Undo(%q), %v: %v, %d", b, e, back, code)
	}
	if len(b) > mostBytes {
		return want
	}
	if again, code := edit.Splice(got, back); code != api.OK || string(again) != string(b) {
		t.Fatalf("P19.1: %q, %v: taken back %q, %d", b, e, again, code)
	}
	if forth, code := edit.Undo(got, back); code != api.OK || !same(forth, e) {
		t.Fatalf("P19.1: %q, %v: what takes back what takes it back: %v, %d", b, e, forth, code)
	}
	return want
}

// words are all rows of up to so many of some bytes.
func words(most int, letters string) []string {
	l := []string{""}
	for from := 0; len(l[from]) < most; from++ {
		for i := range len(letters) {
			l = append(l, l[from]+letters[i:i+1])
		}
	}
	return l
}

// P19.1: all short texts, with every At and Del, right and wrong ones, and all short bytes that come.
func TestAllShort(t *testing.T) {
	comes := words(3, "ax")
	for _, b := range words(5, "ab\xff") {
		for at := -2; at <= len(b)+2; at++ {
			for del := -2; del <= len(b)+2; del++ {
				for _, ins := range comes {
					hold(t, []byte(b), put(at, del, ins))
				}
			}
		}
	}
}

// P19.1: a text whose bytes are all unlike, with every At and Del, right and wrong ones.
func TestAllPlaces(t *testing.T) {
	long := longText(40)
	for n := range len(long) + 1 {
		for at := -1; at <= n+1; at++ {
			for del := -1; del <= n+1; del++ {
				hold(t, []byte(long[:n]), put(at, del, long[n:]))
			}
		}
	}
}

// P1, P19.1: every At and Del at the bounds of an int.
func TestAllBounds(t *testing.T) {
	bounds := []int{math.MinInt, math.MinInt + 1, math.MinInt32, -mostBytes, -1, 0, 1, 2, 3, 4, 5, mostBytes, mostBytes + 1, math.MaxInt32, math.MaxInt - 4, math.MaxInt - 3, math.MaxInt - 1, math.MaxInt}
	for _, b := range []string{"", "a", "abcd", longText(mostBytes), longText(mostBytes + 1)} {
		for _, at := range bounds {
			for _, del := range bounds {
				for _, ins := range []int{0, 1, mostBytes, mostBytes + 1} {
					hold(t, []byte(b), change(at, del, ins))
				}
			}
		}
	}
}

type dice uint64

func (d *dice) roll(n int) int {
	*d = *d*6364136223846793005 + 1442695040888963407
	return int(uint64(*d)>>33) % n
}

// size is a number of bytes: some, or near the bound.
func (d *dice) size() int {
	return []int{d.roll(10), d.roll(200), mostBytes - d.roll(10), mostBytes + d.roll(3), d.roll(2 * mostBytes)}[d.roll(5)]
}

// P19.1: many longer texts.
func TestAgainstSlow(t *testing.T) {
	d := dice(19)
	long := longText(3 * mostBytes)
	seen := map[api.Errno]int{}
	for range 20000 {
		from, n := d.roll(mostBytes), d.size()
		e := api.Edit{At: d.roll(n + 1)}
		e.Del = d.roll(n - e.At + 1)
		if d.roll(6) == 0 {
			e.Del = n - e.At + d.roll(2)
		}
		e.Ins = []byte(long[from/2:])[:d.size()]
		if d.roll(2) == 0 && e.Del <= mostBytes {
			e.Ins = e.Ins[:min(len(e.Ins), e.Del)]
		}
		seen[hold(t, []byte(long[from:from+n]), e)]++
	}
	for _, code := range []api.Errno{api.OK, api.ErrEdit, api.ErrText} {
		if seen[code] < 500 {
			t.Errorf("too few of one answer: %v", seen)
		}
	}
}

// P19.1: long rows of changes, taken back one by one from the last one on.
func TestManyBehindOneAnother(t *testing.T) {
	d := dice(191)
	for range 100 {
		text := []byte(longText(d.roll(50)))
		var texts []string
		var backs []api.Edit
		for range 60 {
			e := api.Edit{At: d.roll(len(text) + 1), Ins: []byte(strings.Repeat("xyz", 20))[:d.roll(20)]}
			e.Del = d.roll(min(len(text)-e.At, 20) + 1)
			back, _ := edit.Undo(text, e)
			texts, backs = append(texts, string(text)), append(backs, back)
			text, _ = edit.Splice(text, e)
		}
		for i := len(backs) - 1; i >= 0; i-- {
			var code api.Errno
			text, code = edit.Splice(text, backs[i])
			if code != api.OK || string(text) != texts[i] {
				t.Fatalf("P19.1: taken back %q, %d, want %q", text, code, texts[i])
			}
		}
	}
}

func FuzzEdit(f *testing.F) {
	f.Add([]byte("abcd"), 1, 2, []byte("x"))
	f.Add([]byte("abcd"), 3, 2, []byte{})
	f.Add([]byte{}, math.MaxInt, math.MaxInt, []byte("\xff"))
	f.Add([]byte(longText(mostBytes)), 0, 1, []byte("xy"))
	f.Fuzz(func(t *testing.T, b []byte, at, del int, ins []byte) {
		hold(t, b, api.Edit{At: at, Del: del, Ins: ins})
	})
}
