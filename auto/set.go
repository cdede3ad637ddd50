package auto

import "stanza/api"

const wordBits = 64

// set is places, as bits. It is an array, so that it may be a map's key.
type set [(api.MaxPlaces + wordBits - 1) / wordBits]uint64

func (s *set) put(place int) {
	s[place/wordBits] |= 1 << (place % wordBits)
}

func (s *set) add(other set) {
	for i, w := range other {
		s[i] |= w
	}
}

func (s set) has(place int) bool {
	return s[place/wordBits]>>(place%wordBits)&1 == 1
}

func (s set) both(other set) set {
	for i, w := range other {
		s[i] &= w
	}
	return s
}
