package hyph

import (
	"slices"

	"stanza/api"
)

// isDistance tells whether so many letters may be asked for ahead of a hyphen, or behind it.
func isDistance(n int) bool { return 1 <= n && n <= api.MaxLetters }

// values tells a word's value ahead of each letter, and behind the last one. What is told of a word holds alone, whatever the patterns say.
func (h *Hyphens) values(word []int32) []uint8 {
	i := slices.IndexFunc(h.told, func(p api.Pattern) bool { return slices.Equal(p.Letters, word) })
	if i >= 0 {
		return h.told[i].Values
	}
	return h.patterns.Values(word)
}

// wordAt gathers the letters with which signs begin, as long as they go on.
func wordAt(l []api.Scalar, letter func(int32) (int32, bool)) []int32 {
	var word []int32
	for _, s := range l {
		r, ok := letter(s.R)
		if !ok {
			break
		}
		word = append(word, r)
	}
	return word
}
