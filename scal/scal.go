// Package scal is layer 1: bytes as signs: see shared/doc/01-scal.md.
package scal

import (
	"sort"
	"unicode/utf8"

	"stanza/api"
)

// One: the sign at a place; of bytes that are none Bad, with as many of them as begin a sign.
func One(b []byte, at int) api.Scalar {
	if at < 0 || at >= len(b) {
		return api.Scalar{}
	}
	rest := b[at:]
	n, whole := begun(rest)
	if !whole {
		return api.Scalar{R: api.Bad, At: at, Len: n}
	}
	r, _ := utf8.DecodeRune(rest)
	return api.Scalar{R: r, At: at, Len: n}
}

// All: all signs.
func All(b []byte) []api.Scalar {
	var l []api.Scalar
	for at := 0; at < len(b); {
		s := One(b, at)
		l = append(l, s)
		at += s.Len
	}
	return l
}

// Find: the place, among signs, of that which has a byte; their number, if the byte is behind them.
func Find(l []api.Scalar, at int) int {
	return sort.Search(len(l), func(i int) bool { return l[i].At+l[i].Len > at })
}

// Put: a sign as bytes; of a number that is none, what Bad is.
func Put(r int32) []byte {
	if !utf8.ValidRune(r) {
		r = api.Bad
	}
	return utf8.AppendRune(nil, r)
}

// begun tells how many bytes, of one at least, begin a sign, and whether they are all that it has.
func begun(b []byte) (n int, whole bool) {
	size, lo, hi := lead(b[0])
	// A byte that begins no sign has size 0: it stands by itself, and is never whole.
	n = 1
	for n < size && n < len(b) && lo <= b[n] && b[n] <= hi {
		// Only the second byte has bounds of its own.
		lo, hi = 0x80, 0xbf
		n++
	}
	return n, n == size
}

// lead tells how many bytes a sign with this first byte has (0: none begins so), and from where to where its second byte may go.
// The bounds shut out a byte too many (e0, f0), surrogates (ed), and what is above 10FFFF (f4).
func lead(first byte) (size int, lo, hi byte) {
	switch {
	case first < 0x80:
		return 1, 0, 0
	case first < 0xc2:
		return 0, 0, 0
	case first < 0xe0:
		return 2, 0x80, 0xbf
	case first == 0xe0:
		return 3, 0xa0, 0xbf
	case first == 0xed:
		return 3, 0x80, 0x9f
	case first < 0xf0:
		return 3, 0x80, 0xbf
	case first == 0xf0:
		return 4, 0x90, 0xbf
	case first < 0xf4:
		return 4, 0x80, 0xbf
	case first == 0xf4:
		return 4, 0x80, 0x8f
	}
	return 0, 0, 0
}
