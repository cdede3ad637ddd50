package pats_test

import (
	"slices"
	"testing"

	"stanza/api"
	"stanza/pats"
)

const roomy = ".hy1p 2a ta-ble a1bc2de3 x-y-z \u00e94\u20ac. as-so-ciate b"

// spill writes into the spare room of patterns' lists.
func spill(l []api.Pattern) {
	for _, p := range l {
		for i := len(p.Letters); i < cap(p.Letters); i++ {
			p.Letters[:cap(p.Letters)][i] = 99
		}
		for i := len(p.Values); i < cap(p.Values); i++ {
			p.Values[:cap(p.Values)][i] = 99
		}
	}
	for i := len(l); i < cap(l); i++ {
		l[:cap(l)][i] = pat("?", "99")
	}
}

// R6: no two lists of an answer share memory: what is written into one, its spare room included, is not seen in another.
func TestAnswersStandApart(t *testing.T) {
	want, _ := slowParse(roomy)
	got, _ := pats.Parse(roomy)
	spill(got.List)
	spill(got.Words)
	if !samePatterns(got, want) {
		t.Errorf("R6: %v, want %v", got, want)
	}
	all := slices.Concat(got.List, got.Words)
	wanted := slices.Concat(want.List, want.Words)
	for i := range all {
		clear(all[i].Letters)
		clear(all[i].Values)
		if !sameList(all[i+1:], wanted[i+1:]) {
			t.Errorf("R6: %d was cleared, and others were changed: %v", i, all)
		}
	}
}

// R6, R8: an answer is new memory: what a caller does with one isn't seen in the next one; and faults leave nothing behind.
func TestCallsStandApart(t *testing.T) {
	want, _ := slowParse(roomy)
	first, _ := pats.Parse(roomy)
	second, _ := pats.Parse(roomy)
	for _, p := range slices.Concat(first.List, first.Words) {
		clear(p.Letters)
		clear(p.Values)
	}
	clear(first.List)
	clear(first.Words)
	pats.Parse("a-b a-b")
	pats.Parse(roomy + " -")
	if !samePatterns(second, want) {
		t.Errorf("R6: %v, want %v", second, want)
	}
	// A word of an earlier call is not told in this one.
	good(t, roomy, want)
	good(t, "ta-ble", both(nil, list(pat("table", "001000"))))
}
