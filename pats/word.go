package pats

import (
	"slices"

	"stanza/api"
)

const (
	hyphen int32 = '-'
	point  int32 = '.'
)

// unmarked stands for a digit or a hyphen where there is none; a digit 0 is another thing.
const unmarked int32 = 0

// word is signs without a blank, one at least. It has no spare room: behind it, in the same memory, stand the words that come next.
type word []api.Scalar

// words tells what stands between blanks.
func words(signs []api.Scalar) []word {
	var l []word
	from := 0
	for i, s := range signs {
		if !isBlank(s.R) {
			continue
		}
		if from < i {
			l = append(l, signs[from:i:i])
		}
		from = i + 1
	}
	if n := len(signs); from < n {
		l = append(l, signs[from:n:n])
	}
	return l
}

func (w word) has(r int32) bool {
	return slices.ContainsFunc(w, func(s api.Scalar) bool { return s.R == r })
}

// pattern reads a word without hyphens.
func (w word) pattern() (api.Pattern, bool) {
	letters, digits, ok := w.parted(isDigit)
	if !ok || !pointsAtEnds(letters, digits) {
		return api.Pattern{}, false
	}
	return api.Pattern{Letters: letters, Values: valued(digits, digitValue)}, true
}

// told reads a word with a hyphen.
func (w word) told() (api.Pattern, bool) {
	letters, hyphens, ok := w.parted(isHyphen)
	if !ok || hyphens[0] != unmarked || hyphens[len(letters)] != unmarked {
		return api.Pattern{}, false
	}
	if slices.ContainsFunc(letters, isDigit) || slices.Contains(letters, point) {
		return api.Pattern{}, false
	}
	return api.Pattern{Letters: letters, Values: valued(hyphens, hyphenValue)}, true
}

// parted tells a word's letters, and which mark stands ahead of each one and behind the last one.
// It is not ok with two marks in a row, with too many letters or none, or with one that is no sign.
func (w word) parted(isMark func(int32) bool) (letters, marks []int32, ok bool) {
	mark := unmarked
	for _, s := range w {
		switch {
		case !isMark(s.R):
			letters = append(letters, s.R)
			marks = append(marks, mark)
			mark = unmarked
		case mark != unmarked:
			return nil, nil, false
		default:
			mark = s.R
		}
	}
	if len(letters) == 0 || len(letters) > api.MaxLetters || slices.Contains(letters, api.Bad) {
		return nil, nil, false
	}
	return letters, append(marks, mark), true
}

// pointsAtEnds tells whether points stand only as the first and the last letter, with no digit outside of them and a letter besides.
func pointsAtEnds(letters, digits []int32) bool {
	inner := letters
	if inner[0] == point {
		if digits[0] != unmarked {
			return false
		}
		inner = inner[1:]
	}
	if n := len(inner); n > 0 && inner[n-1] == point {
		if digits[len(letters)] != unmarked {
			return false
		}
		inner = inner[:n-1]
	}
	return len(inner) > 0 && !slices.Contains(inner, point)
}

// valued tells of each mark its value; 0, where there is none.
func valued(marks []int32, value func(int32) uint8) []uint8 {
	l := make([]uint8, len(marks))
	for i, m := range marks {
		if m != unmarked {
			l[i] = value(m)
		}
	}
	return l
}

func digitValue(r int32) uint8 { return uint8(r - '0') }

func hyphenValue(int32) uint8 { return 1 }

func isBlank(r int32) bool { return r == ' ' || r == '\t' || r == '\n' || r == '\r' }

func isDigit(r int32) bool { return '0' <= r && r <= '9' }

func isHyphen(r int32) bool { return r == hyphen }
