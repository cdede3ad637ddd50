package place_test

import (
	"testing"

	"stanza/api"
)

// P17.2: a row's beginning is in that row, with back at the end of the row ahead; the first row's beginning and the text's end are the same with back.
func TestSpotAtRowsBeginnings(t *testing.T) {
	spots(t, made(t, "a", way(1), "a!"), "0.0 0.1")
	spots(t, made(t, "aab", way(2), "aa/", "b!"), "0.0 0.1 1.0<0.2 1.1")
	spots(t, made(t, "a|b|c", way(1), "a|", "b|", "c!"), "0.0 1.0<0.1 2.0<1.1 2.1")
	spots(t, made(t, "ab!c!de", way(9), "ab!", "c!", "de!"), "0.0 0.1 1.0<0.2 2.0<1.1 2.1 2.2")
}

// P17.2: each byte of a cluster is told as its beginning, with back too: so is each byte of a row's first cluster as that row's beginning.
func TestSpotOfSeveralBytes(t *testing.T) {
	spots(t, made(t, "W", way(2), "W!"), "0.0 0.0 0.0 0.2")
	spots(t, made(t, "aWb", way(4), "aWb!"), "0.0 0.1 0.1 0.1 0.3 0.4")
	spots(t, made(t, "a=u", way(9), "a=u!"), "0.0 0.1 0.1 0.1 0.1 0.3 0.3 0.4")
	spots(t, made(t, "WW|W", way(4), "WW|", "W!"), "0.0 0.0 0.0 0.2 0.2 0.2 1.0<0.4 1.0<0.4 1.0<0.4 1.2")
	spots(t, made(t, "W!u", way(4), "W!", "u!"), "0.0 0.0 0.0 1.0<0.2 1.0<0.2 1.4")
}

// P17.2: clusters without cells are told at the column of what is behind them, at a row's end at its end.
func TestSpotWithoutCells(t *testing.T) {
	spots(t, made(t, "0", way(1), "0!"), "0.0 0.0 0.0")
	spots(t, made(t, "_", way(1), "_!"), "0.0 0.0")
	spots(t, made(t, "00", way(1), "00!"), "0.0 0.0 0.0 0.0 0.0")
	spots(t, made(t, "0a_b0", way(2), "0a_b0!"), "0.0 0.0 0.0 0.1 0.1 0.2 0.2 0.2")
	spots(t, made(t, "a0|0b", way(1), "a0|", "0b!"), "0.0 0.1 0.1 1.0<0.1 1.0<0.1 1.0 1.1")
	spots(t, made(t, "0!0!a", way(1), "0!", "0!", "a!"), "0.0 0.0 1.0<0.0 1.0<0.0 2.0<1.0 2.1")
}

// P17.2: spaces at a row's end have columns, though they aren't counted as its cells: so a column may be behind the width.
func TestSpotOfSpaces(t *testing.T) {
	spots(t, made(t, "ab |c", way(2), "ab |", "c!"), "0.0 0.1 0.2 1.0<0.3 1.1")
	spots(t, made(t, "a   |b", way(1), "a   |", "b!"), "0.0 0.1 0.2 0.3 1.0<0.4 1.1")
	spots(t, made(t, "a=|b", way(1), "a=|", "b!"), "0.0 0.1 0.1 0.1 0.1 1.0<0.3 1.1")
	spots(t, made(t, "a ", way(1), "a !"), "0.0 0.1 0.2")
	spots(t, made(t, "  a", way(3), "  a!"), "0.0 0.1 0.2 0.3")
}

// P17.2: a tab leads to the next multiple, from its row's beginning on.
func TestSpotOfTabs(t *testing.T) {
	spots(t, made(t, "t", way(4), "t!"), "0.0 0.4")
	spots(t, made(t, "atb", way(9), "atb!"), "0.0 0.1 0.4 0.5")
	spots(t, made(t, "abcdt", way(9), "abcdt!"), "0.0 0.1 0.2 0.3 0.4 0.8")
	spots(t, made(t, "abc|dte", way(5), "abc|", "dte!"), "0.0 0.1 0.2 1.0<0.3 1.1 1.4 1.5")
	spots(t, made(t, "t|t", way(3), "t|", "t!"), "0.0 1.0<0.4 1.4")
	c := way(9)
	c.Tab = 1
	spots(t, made(t, "tat", c, "tat!"), "0.0 0.1 0.2 0.3")
}

// P17.2: a hyphen at a row's end has no column of its own, nor has a cut.
func TestSpotAtHyphensAndCuts(t *testing.T) {
	spots(t, made(t, "ab-cd", way(3), "ab-", "cd!"), "0.0 0.1 1.0<0.2 1.1 1.2")
	spots(t, made(t, "abc-d", way(3), "abc/", "d!"), "0.0 0.1 0.2 1.0<0.3 1.1")
	spots(t, made(t, "Wa", way(1), "W/", "a!"), "0.0 0.0 0.0 1.0<0.2 1.1")
	spots(t, made(t, "a-b|c", best(way(2)), "a-", "bc!"), "0.0 1.0<0.1 1.1 1.2")
}

// P17.2, R3: what is no byte of the text, nor its end, is refused.
func TestSpotRange(t *testing.T) {
	for _, told := range []struct {
		text  string
		bytes int
	}{{"", 0}, {"a", 1}, {"W", 3}, {"aW!=|t", 9}, {"0", 2}} {
		p := text(told.text)
		for _, c := range []api.Config{way(1), best(way(9))} {
			m := broken(p, c)
			for _, at := range []int{0, told.bytes} {
				for _, back := range []bool{false, true} {
					if _, e := m.Spot(at, back); e != api.OK {
						t.Errorf("P17.2: Spot of %d, %v of %q: %d", at, back, told.text, e)
					}
				}
			}
			noSpot(t, m, -1, api.ErrRange)
			noSpot(t, m, told.bytes+1, api.ErrRange)
		}
	}
}
