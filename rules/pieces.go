package rules

import (
	"strings"

	"stanza/api"
)

// signs are the bytes that are a piece each.
const signs = "()[]^|*+?.;/="

// piece is a name or a sign, and where it stands; at the text's end it has no bytes.
type piece struct {
	text string
	at   int
}

// reader is a text, how far it was read, and what it said so far.
// No piece is looked at ahead of what the one ahead of it asks for: so the first fault is the first one found.
type reader struct {
	text   string
	at     int
	out    api.Rules
	bits   map[string]uint32 // of each name that was declared its classes
	places int               // how many things were read
	open   int               // how many brackets ( are open
}

// throw ends the reading with a fault; Parse catches it.
func throw(code api.Errno, at int) {
	panic(api.Fault{Code: code, At: at})
}

// next tells the next piece, and leaves it there.
func (r *reader) next() piece {
	r.at += blanks(r.text[r.at:])
	rest := r.text[r.at:]
	n := nameLen(rest)
	switch {
	case n > 0 || rest == "":
	case strings.IndexByte(signs, rest[0]) >= 0:
		n = 1
	default:
		throw(api.ErrToken, r.at)
	}
	return piece{rest[:n], r.at}
}

// take goes behind a piece that next told.
func (r *reader) take(p piece) {
	r.at = p.at + len(p.text)
}

// took goes behind the next piece, if it is this sign, and tells whether it was.
func (r *reader) took(sign string) bool {
	p := r.next()
	if p.text != sign {
		return false
	}
	r.take(p)
	return true
}

// want goes behind this sign, which must be next.
func (r *reader) want(sign string) {
	if !r.took(sign) {
		throw(api.ErrParse, r.next().at)
	}
}

// name goes behind the next piece, which must be a name.
func (r *reader) name() piece {
	p := r.next()
	if !p.isName() {
		throw(api.ErrParse, p.at)
	}
	r.take(p)
	return p
}

func (p piece) isName() bool {
	return nameLen(p.text) > 0
}

// blanks tells how many bytes of blanks and remarks a text begins with.
func blanks(text string) int {
	n := 0
	remark := false
	for n < len(text) {
		c := text[n]
		switch {
		case c == '\n':
			remark = false
		case remark || c == ' ' || c == '\t' || c == '\r':
		case c == '#':
			remark = true
		default:
			return n
		}
		n++
	}
	return n
}

// nameLen tells how many bytes of a name a text begins with.
func nameLen(text string) int {
	n := 0
	for n < len(text) && isNameByte(text[n]) {
		n++
	}
	return n
}

func isNameByte(c byte) bool {
	return 'a' <= c && c <= 'z' || 'A' <= c && c <= 'Z' || '0' <= c && c <= '9' || c == '_'
}
