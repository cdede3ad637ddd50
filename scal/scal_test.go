package scal_test

import (
	"bytes"
	"math"
	"slices"
	"testing"

	"stanza/api"
	"stanza/scal"
)

// edgeBytes are the bytes at which UTF-8's bounds lie, on both sides.
var edgeBytes = []byte{
	0x00, 0x41, 0x7f, 0x80, 0x8f, 0x90, 0x9f, 0xa0, 0xbf, 0xc0, 0xc1, 0xc2, 0xdf,
	0xe0, 0xe1, 0xec, 0xed, 0xee, 0xef, 0xf0, 0xf1, 0xf3, 0xf4, 0xf5, 0xf8, 0xff,
}

func isSign(r int32) bool {
	return r >= 0 && r <= 0x10ffff && (r < 0xd800 || r > 0xdfff)
}

// write is a second writing of signs, held against Put and One: it shares no code with them.
func write(r int32) []byte {
	switch {
	case r < 0x80:
		return []byte{byte(r)}
	case r < 0x800:
		return []byte{byte(0xc0 | r>>6), byte(0x80 | r&0x3f)}
	case r < 0x10000:
		return []byte{byte(0xe0 | r>>12), byte(0x80 | r>>6&0x3f), byte(0x80 | r&0x3f)}
	}
	return []byte{byte(0xf0 | r>>18), byte(0x80 | r>>12&0x3f), byte(0x80 | r>>6&0x3f), byte(0x80 | r&0x3f)}
}

// beginnings is every beginning of every right sign; a whole one has its number, others -1.
func beginnings() map[string]int32 {
	m := map[string]int32{}
	for r := int32(0); r <= 0x10ffff; r++ {
		if !isSign(r) {
			continue
		}
		s := string(write(r))
		for n := 1; n < len(s); n++ {
			m[s[:n]] = -1
		}
		m[s] = r
	}
	return m
}

// lookUp is One as the chapter words it, by the list of all beginnings.
func lookUp(m map[string]int32, b []byte, at int) api.Scalar {
	longest := 1
	for n := 1; n <= 4 && at+n <= len(b); n++ {
		r, ok := m[string(b[at:at+n])]
		if ok && r >= 0 {
			return api.Scalar{R: r, At: at, Len: n}
		}
		if ok {
			longest = n
		}
	}
	return api.Scalar{R: api.Bad, At: at, Len: longest}
}

// eachText goes over all texts of up to so many edge bytes.
func eachText(most int, yield func([]byte)) {
	var grow func(b []byte)
	grow = func(b []byte) {
		yield(b)
		if len(b) == most {
			return
		}
		for _, c := range edgeBytes {
			grow(append(slices.Clone(b), c))
		}
	}
	grow(nil)
}

func TestOneOfRightSigns(t *testing.T) { // P1.1
	for _, c := range []struct {
		text string
		r    int32
		size int
	}{
		{"\x00", 0, 1}, {"a", 'a', 1}, {"\x7f", 0x7f, 1},
		{"\xc2\x80", 0x80, 2}, {"\xc3\xa9", 0xe9, 2}, {"\xdf\xbf", 0x7ff, 2},
		{"\xe0\xa0\x80", 0x800, 3}, {"\xe4\xb8\xad", 0x4e2d, 3}, {"\xed\x9f\xbf", 0xd7ff, 3},
		{"\xee\x80\x80", 0xe000, 3}, {"\xef\xbf\xbd", api.Bad, 3}, {"\xef\xbf\xbf", 0xffff, 3},
		{"\xf0\x90\x80\x80", 0x10000, 4}, {"\xf0\x9f\x98\x80", 0x1f600, 4}, {"\xf4\x8f\xbf\xbf", 0x10ffff, 4},
	} {
		b := []byte("xy" + c.text + "z")
		if got, want := scal.One(b, 2), (api.Scalar{R: c.r, At: 2, Len: c.size}); got != want {
			t.Errorf("One(%x, 2) = %v, want %v", b, got, want)
		}
	}
}

func TestOneOfWrongBytes(t *testing.T) { // P1.1
	for _, c := range []struct {
		name, text string
		size       int
	}{
		{"too many bytes, 2", "\xc0\x80", 1}, {"too many bytes, 2", "\xc1\xbf", 1},
		{"too many bytes, 3", "\xe0\x80\x80", 1}, {"too many bytes, 3", "\xe0\x9f\xbf", 1},
		{"too many bytes, 4", "\xf0\x80\x80\x80", 1}, {"too many bytes, 4", "\xf0\x8f\xbf\xbf", 1},
		{"first surrogate", "\xed\xa0\x80", 1}, {"last surrogate", "\xed\xbf\xbf", 1},
		{"above 10FFFF", "\xf4\x90\x80\x80", 1}, {"above 10FFFF", "\xf5\x80\x80\x80", 1},
		{"five bytes", "\xf8\x88\x80\x80\x80", 1}, {"six bytes", "\xfc\x84\x80\x80\x80\x80", 1},
		{"begins none", "\x80", 1}, {"begins none", "\xbf\xbf", 1}, {"begins none", "\xfe", 1}, {"begins none", "\xff\xff", 1},
		{"1 of 2", "\xc3A", 1}, {"1 of 3", "\xe4A", 1}, {"2 of 3", "\xe4\xb8A", 2}, {"2 of 3", "\xed\x9fA", 2},
		{"1 of 4", "\xf0A", 1}, {"2 of 4", "\xf0\x9fA", 2}, {"3 of 4", "\xf0\x9f\x98A", 3}, {"3 of 4", "\xf4\x8f\xbf\xc3", 3},
		{"text ends, 1 of 2", "\xc3", 1}, {"text ends, 1 of 3", "\xe4", 1}, {"text ends, 2 of 3", "\xe4\xb8", 2},
		{"text ends, 1 of 4", "\xf0", 1}, {"text ends, 2 of 4", "\xf0\x9f", 2}, {"text ends, 3 of 4", "\xf0\x9f\x98", 3},
	} {
		b := []byte("x" + c.text)
		if got, want := scal.One(b, 1), (api.Scalar{R: api.Bad, At: 1, Len: c.size}); got != want {
			t.Errorf("%s: One(%x, 1) = %v, want %v", c.name, b, got, want)
		}
	}
}

func TestOneWithinASign(t *testing.T) { // P1.1
	b := []byte("\xf0\x9f\x98\x80")
	for at := 1; at < 4; at++ {
		if got, want := scal.One(b, at), (api.Scalar{R: api.Bad, At: at, Len: 1}); got != want {
			t.Errorf("One(%x, %d) = %v, want %v", b, at, got, want)
		}
	}
}

func TestOneOfAPlaceThatIsNotThere(t *testing.T) { // P1.1, P1
	for _, b := range [][]byte{nil, {}, []byte("a"), []byte("\xc3\xa9")} {
		for _, at := range []int{-1, -2, math.MinInt, len(b), len(b) + 1, math.MaxInt} {
			if got := scal.One(b, at); got != (api.Scalar{}) {
				t.Errorf("One(%x, %d) = %v, want zeros", b, at, got)
			}
		}
	}
	// Bytes that a slice has only as spare room aren't there.
	spare := []byte("a\xc3\xa9")
	if got, want := scal.One(spare[:2], 1), (api.Scalar{R: api.Bad, At: 1, Len: 1}); got != want {
		t.Errorf("One with spare room = %v, want %v", got, want)
	}
	if got := scal.One(spare[:1], 1); got != (api.Scalar{}) {
		t.Errorf("One at spare room = %v, want zeros", got)
	}
}

func TestAllOfExamples(t *testing.T) { // P1.1
	for _, c := range []struct {
		text string
		want []api.Scalar
	}{
		{"", nil},
		{"a\xc3\xa9", []api.Scalar{{R: 'a', At: 0, Len: 1}, {R: 0xe9, At: 1, Len: 2}}},
		{"\xf0\x9f\x98A", []api.Scalar{{R: api.Bad, At: 0, Len: 3}, {R: 'A', At: 3, Len: 1}}},
		{"\xed\xa0\x80", []api.Scalar{{R: api.Bad, At: 0, Len: 1}, {R: api.Bad, At: 1, Len: 1}, {R: api.Bad, At: 2, Len: 1}}},
		{"\xc3", []api.Scalar{{R: api.Bad, At: 0, Len: 1}}},
		{"a\xe4\xb8\xad\xf0\x9f\x98\x80", []api.Scalar{{R: 'a', At: 0, Len: 1}, {R: 0x4e2d, At: 1, Len: 3}, {R: 0x1f600, At: 4, Len: 4}}},
	} {
		if got := scal.All([]byte(c.text)); !slices.Equal(got, c.want) {
			t.Errorf("All(%x) = %v, want %v", c.text, got, c.want)
		}
	}
	if got := scal.All(nil); len(got) != 0 {
		t.Errorf("All(nil) = %v, want none", got)
	}
}

func TestAllTextsOfEdgeBytes(t *testing.T) { // P1.1, P1.3
	m := beginnings()
	eachText(4, func(b []byte) {
		for at := range b {
			if got, want := scal.One(b, at), lookUp(m, b, at); got != want {
				t.Fatalf("One(%x, %d) = %v, want %v", b, at, got, want)
			}
		}
		at := 0
		for _, s := range scal.All(b) {
			if want := lookUp(m, b, at); s != want {
				t.Fatalf("All(%x): %v, want %v", b, s, want)
			}
			at += s.Len
		}
		if at != len(b) {
			t.Fatalf("All(%x) has %d bytes", b, at)
		}
	})
}

func TestSignsAreAllBytes(t *testing.T) { // P1.3
	text := []byte("a\xc3\xa9\x80\xf0\x9f\x98A\xed\xa0\x80\xe4\xb8\xad\xc0\xaf\xf0\x9f\x98\x80\xef\xbf\xbd\xf4\x90\xe4\xb8")
	var joined []byte
	for _, s := range scal.All(text) {
		if s.At != len(joined) || s.Len < 1 {
			t.Fatalf("sign %v behind %d bytes", s, len(joined))
		}
		joined = append(joined, text[s.At:s.At+s.Len]...)
	}
	if !bytes.Equal(joined, text) {
		t.Errorf("signs have the bytes %x, want %x", joined, text)
	}
}

func TestFindInAnyText(t *testing.T) { // P1.2
	eachText(3, func(b []byte) {
		l := scal.All(b)
		for at := -2; at <= len(b)+2; at++ {
			want := slices.IndexFunc(l, func(s api.Scalar) bool { return s.At+s.Len > at })
			if want < 0 {
				want = len(l)
			}
			if got := scal.Find(l, at); got != want {
				t.Fatalf("Find(All(%x), %d) = %d, want %d", b, at, got, want)
			}
		}
	})
}

func TestFindAtEdges(t *testing.T) { // P1.2, P1
	l := scal.All([]byte("a\xc3\xa9\xf0\x9f\x98A"))
	for _, c := range []struct{ at, want int }{
		{math.MinInt, 0}, {-1, 0}, {0, 0}, {1, 1}, {2, 1}, {3, 2}, {5, 2}, {6, 3}, {7, 4}, {8, 4}, {math.MaxInt, 4},
	} {
		if got := scal.Find(l, c.at); got != c.want {
			t.Errorf("Find(l, %d) = %d, want %d", c.at, got, c.want)
		}
	}
	for _, at := range []int{math.MinInt, -1, 0, 1, math.MaxInt} {
		if got := scal.Find(nil, at); got != 0 {
			t.Errorf("Find(nil, %d) = %d, want 0", at, got)
		}
	}
}

// Lists that All never answers have no promised place, but a call still ends, with a place that may be.
func TestFindOfAnySigns(t *testing.T) { // P1
	l := []api.Scalar{
		{R: -1, At: math.MaxInt, Len: math.MaxInt}, {R: 1, At: -5, Len: -5}, {}, {R: 2, At: math.MinInt, Len: -1}, {R: 3, At: 7, Len: 0},
	}
	for n := range len(l) + 1 {
		for _, at := range []int{math.MinInt, -1, 0, 7, math.MaxInt} {
			if got := scal.Find(l[:n], at); got < 0 || got > n {
				t.Errorf("Find of %d signs at %d = %d", n, at, got)
			}
		}
	}
}

func TestPutOfEveryNumber(t *testing.T) { // P1.2, P1.3
	for r := int32(-0x100); r <= 0x110100; r++ {
		want := []byte("\xef\xbf\xbd")
		if isSign(r) {
			want = write(r)
		}
		got := scal.Put(r)
		if !bytes.Equal(got, want) {
			t.Fatalf("Put(%x) = %x, want %x", r, got, want)
		}
		if s := scal.One(got, 0); isSign(r) && s != (api.Scalar{R: r, At: 0, Len: len(want)}) {
			t.Fatalf("One(Put(%x), 0) = %v", r, s)
		}
	}
}

func TestPutOfNumbersThatAreNone(t *testing.T) { // P1.2
	for _, r := range []int32{math.MinInt32, -1, 0xd800, 0xdbff, 0xdc00, 0xdfff, 0x110000, math.MaxInt32, api.Bad} {
		if got := scal.Put(r); string(got) != "\xef\xbf\xbd" {
			t.Errorf("Put(%x) = %x, want efbfbd", r, got)
		}
	}
}

func TestArgumentsStayAsTheyAre(t *testing.T) { // R6
	room := []byte("a\xc3\xa9\xf0\x9f\x98 rest")
	before := slices.Clone(room)
	text := room[:6]
	scal.One(text, 3)
	l := scal.All(text)
	if !bytes.Equal(room, before) {
		t.Errorf("One or All changed the bytes to %x", room)
	}
	kept := slices.Clone(l)
	scal.Find(l, 2)
	if !slices.Equal(l, kept) {
		t.Errorf("Find changed the signs to %v", l)
	}
	clear(room)
	if !slices.Equal(l, kept) {
		t.Errorf("the signs changed with the bytes to %v", l)
	}
}

func TestAnswersAreNewMemory(t *testing.T) { // R6, R8
	text := []byte("a\xc3\xa9")
	l := scal.All(text)
	want := slices.Clone(l)
	clear(l[:cap(l)])
	if got := scal.All(text); !slices.Equal(got, want) {
		t.Errorf("All again = %v, want %v", got, want)
	}
	for _, r := range []int32{'a', 0xe9, 0x4e2d, 0x1f600, -1, 0xd800} {
		first := scal.Put(r)
		want := slices.Clone(first)
		clear(first[:cap(first)])
		if got := scal.Put(r); !bytes.Equal(got, want) {
			t.Errorf("Put(%x) again = %x, want %x", r, got, want)
		}
	}
}

func FuzzAll(f *testing.F) { // P1.1, P1.2, P1.3
	m := beginnings()
	f.Add([]byte("a\xc3\xa9\xf0\x9f\x98A\xed\xa0\x80"))
	f.Fuzz(func(t *testing.T, b []byte) {
		at := 0
		for i, s := range scal.All(b) {
			if s != lookUp(m, b, at) {
				t.Fatalf("%x at %d: %v", b, at, s)
			}
			if s.R != api.Bad && !bytes.Equal(scal.Put(s.R), b[s.At:s.At+s.Len]) {
				t.Fatalf("Put(%x) = %x", s.R, scal.Put(s.R))
			}
			for n := range s.Len {
				if scal.Find(scal.All(b), at+n) != i {
					t.Fatalf("Find of byte %d of %x isn't %d", at+n, b, i)
				}
			}
			at += s.Len
		}
		if at != len(b) {
			t.Fatalf("%x: %d bytes", b, at)
		}
	})
}
