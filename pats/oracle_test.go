package pats_test

import (
	"bytes"
	"regexp"
	"strings"
	"testing"

	"stanza/api"
	"stanza/pats"
)

// The tests of this file hold Parse against a slow reader of another make: regular expressions say what words, patterns and words that are told are.

const letter = `[^0-9.\-\x{FFFD}]`

var (
	slowWord    = regexp.MustCompile(`[^ \t\n\r]+`)
	slowPattern = regexp.MustCompile(`^(\.?|[0-9]|\.[0-9])` + letter + `([0-9]?` + letter + `)*(\.?|[0-9]|[0-9]\.)$`)
	slowTold    = regexp.MustCompile(`^` + letter + `+(-` + letter + `+)+$`)
	slowMark    = regexp.MustCompile(`[0-9\-]`)
)

// slowValues tells a value of each place of a word that is right.
func slowValues(word string) []uint8 {
	var values []uint8
	ahead := uint8(0)
	for _, r := range word + "!" { // the ! stands behind the last sign
		switch {
		case r == '-':
			ahead = 1
		case '0' <= r && r <= '9':
			ahead = uint8(r - '0')
		default:
			values = append(values, ahead)
			ahead = 0
		}
	}
	return values
}

func slowParse(text string) (api.Patterns, api.Fault) {
	var out api.Patterns
	if len(text) > 4096 {
		return out, at(api.ErrMany, 4096)
	}
	told := map[string]bool{}
	for i, place := range slowWord.FindAllStringIndex(text, -1) {
		word := text[place[0]:place[1]]
		letters := slowMark.ReplaceAllString(word, "")
		p := api.Pattern{Letters: []int32(letters), Values: slowValues(word)}
		isTold := slowTold.MatchString(word)
		code := api.OK
		switch {
		case i == 256:
			code = api.ErrMany
		case len(p.Letters) > 24 || !isTold && !slowPattern.MatchString(word):
			code = api.ErrPattern
		case isTold && told[letters]:
			code = api.ErrTwice
		case isTold:
			told[letters] = true
			out.Words = append(out.Words, p)
		default:
			out.List = append(out.List, p)
		}
		if code != api.OK {
			return api.Patterns{}, at(code, place[0])
		}
	}
	return out, api.Fault{}
}

func holdAgainst(t *testing.T, text string) api.Fault {
	t.Helper()
	want, fault := slowParse(text)
	got, f := pats.Parse(text)
	if f != fault || !samePatterns(got, want) {
		t.Fatalf("P7.1: %.200q: %v %v, want %v %v", text, got, f, want, fault)
	}
	return f
}

// TestAllShort: all texts of a few bytes that matter.
func TestAllShort(t *testing.T) {
	few := "ab.-10 \xc3\xa9"
	seen := map[api.Errno]int{}
	var grow func(text string, more int)
	grow = func(text string, more int) {
		seen[holdAgainst(t, text).Code]++
		if more == 0 {
			return
		}
		for i := range len(few) {
			grow(text+few[i:i+1], more-1)
		}
	}
	grow("", 5)
	if seen[api.OK] < 1000 || seen[api.ErrPattern] < 1000 {
		t.Errorf("too few of a kind: %v", seen)
	}
	seen = map[api.Errno]int{}
	few = "a- "
	grow("", 10)
	if seen[api.OK] < 1000 || seen[api.ErrPattern] < 1000 || seen[api.ErrTwice] < 50 {
		t.Errorf("too few of a kind: %v", seen)
	}
}

type dice uint64

func (d *dice) roll(n int) int {
	*d = *d*6364136223846793005 + 1442695040888963407
	return int(uint64(*d)>>33) % n
}

func (d *dice) pick(words ...string) string { return words[d.roll(len(words))] }

func (d *dice) sign() string { return d.pick("a", "b", "c", "d", "\u00e9", "\u20ac", "\U0001f600") }

func (d *dice) pattern() string {
	var b strings.Builder
	b.WriteString(d.pick("", "", ".", ".", ".3", "2"))
	for range 1 + d.roll(26) {
		b.WriteString(d.sign() + d.pick("", "", "1", "5", "0"))
	}
	return b.String() + d.pick("", "", "", ".")
}

func (d *dice) told() string {
	var b strings.Builder
	b.WriteString(d.pick("a", "b", "\u00e9") + "-")
	for range d.roll(3) * d.roll(2) * d.roll(13) {
		b.WriteString(d.sign() + d.pick("", "", "-"))
	}
	return b.String() + d.pick("a", "b", "\u00e9")
}

// text has words, of which most are right.
func (d *dice) text(words int) string {
	var b strings.Builder
	for range words {
		word := d.pattern()
		if d.roll(2) == 0 {
			word = d.told()
		}
		b.WriteString(d.pick(" ", " ", "\n", "\r\n", "\t ", "  ") + word)
	}
	return b.String() + d.pick("", " ", "\n")
}

// changed puts something else in a few places of a text.
func (d *dice) changed(text string) string {
	for range d.roll(4) {
		from := d.roll(len(text) + 1)
		to := min(len(text), from+d.roll(3))
		text = text[:from] + d.pick("", "a", "b", ".", "-", "0", "1", " ", "\n", "\xc3", "\xa9", "\xff", "\x00") + text[to:]
	}
	return text
}

// TestAgainstSlow: texts that are right, or nearly so.
func TestAgainstSlow(t *testing.T) {
	d := dice(3)
	seen := map[api.Errno]int{}
	for range 20000 {
		text := d.text(d.roll(5))
		seen[holdAgainst(t, text).Code]++
		seen[holdAgainst(t, d.changed(text)).Code]++
	}
	for _, code := range []api.Errno{api.OK, api.ErrPattern, api.ErrTwice} {
		if seen[code] < 500 {
			t.Errorf("too few texts with %d: %v", code, seen)
		}
	}
}

// TestLimitsAgainstSlow: texts that come near the limits of words and bytes.
func TestLimitsAgainstSlow(t *testing.T) {
	d := dice(5)
	seen := map[api.Fault]int{}
	for range 1500 {
		n := 250 + d.roll(10)
		k := d.roll(n)
		text := strings.Repeat("a1b ", n-k) + toldWords(k) + d.pick("", "a-a", "z-z", "-", "c") + d.pick("", " ", " b ", " 1.")
		seen[at(holdAgainst(t, text).Code, 0)]++
		seen[holdAgainst(t, text+strings.Repeat(" ", max(0, 4090+d.roll(12)-len(text))))]++
	}
	for _, f := range []api.Fault{{}, at(api.ErrMany, 0), at(api.ErrPattern, 0), at(api.ErrTwice, 0), at(api.ErrMany, 4096)} {
		if seen[f] < 20 {
			t.Errorf("too few texts with %v", f)
		}
	}
}

// TestAnyBytes (P1): no text makes Parse panic or not end.
func TestAnyBytes(t *testing.T) {
	d := dice(7)
	for n := range 5000 {
		b := make([]byte, n%200)
		for i := range b {
			b[i] = byte(d.roll(256))
		}
		holdAgainst(t, string(b))
		holdAgainst(t, "a-b "+string(b))
	}
	for c := range 256 {
		for _, n := range []int{1, 2, 24, 25, 256, 257, 4095, 4096, 4097, 100000} {
			holdAgainst(t, string(bytes.Repeat([]byte{byte(c)}, n)))
			holdAgainst(t, strings.Repeat(string([]byte{byte(c)})+" ", n))
			holdAgainst(t, "a"+strings.Repeat(string([]byte{byte(c)})+"b", n))
		}
	}
}

func FuzzParse(f *testing.F) {
	f.Add(".hy1p 2a ta-ble")
	f.Add("a12b a.b . -a a--b a1-b")
	f.Add(roomy)
	d := dice(9)
	for range 20 {
		f.Add(d.text(3))
	}
	f.Fuzz(func(t *testing.T, text string) { holdAgainst(t, text) })
}
