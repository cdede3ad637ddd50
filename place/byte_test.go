package place_test

import (
	"math"
	"testing"

	"stanza/api"
)

// P17.2: a column at which a cluster begins leads to it, the row's end and all behind it to that end.
func TestByteOfBeginnings(t *testing.T) {
	m := made(t, "aab", way(2), "aa/", "b!")
	bytes(t, m, 0, 0, 1, 2)
	bytes(t, m, 1, 2, 3)
	m = made(t, "ab!c!de", way(9), "ab!", "c!", "de!")
	bytes(t, m, 0, 0, 1, 2)
	bytes(t, m, 1, 2, 3)
	bytes(t, m, 2, 3, 4, 5)
}

// P17.2: a column within a wide cluster leads to its beginning, in bytes.
func TestByteWithinWideClusters(t *testing.T) {
	bytes(t, made(t, "W", way(1), "W!"), 0, 0, 0, 3)
	bytes(t, made(t, "aWb", way(4), "aWb!"), 0, 0, 1, 1, 4, 5)
	m := made(t, "WW|aW", way(4), "WW|", "aW!")
	bytes(t, m, 0, 0, 0, 3, 3, 6)
	bytes(t, m, 1, 6, 7, 7, 10)
}

// P17.2: a column within a tab leads to its beginning.
func TestByteWithinTabs(t *testing.T) {
	bytes(t, made(t, "t", way(4), "t!"), 0, 0, 0, 0, 0, 1)
	bytes(t, made(t, "atb", way(9), "atb!"), 0, 0, 1, 1, 1, 2, 3)
	bytes(t, made(t, "Wub", way(9), "Wub!"), 0, 0, 0, 3, 3, 5, 6)
	bytes(t, made(t, "abc|dte", way(5), "abc|", "dte!"), 1, 3, 4, 4, 4, 5, 6)
	m := made(t, "t|t", way(3), "t|", "t!")
	bytes(t, m, 0, 0, 0, 0, 0, 1)
	bytes(t, m, 1, 1, 1, 1, 1, 2)
}

// P17.2: of several clusters that begin at a column the first one is told.
func TestByteOfSeveralBeginnings(t *testing.T) {
	bytes(t, made(t, "0a", way(1), "0a!"), 0, 0, 3)
	bytes(t, made(t, "a0_0b", way(2), "a0_0b!"), 0, 0, 1, 7)
	bytes(t, made(t, "a00t", way(9), "a00t!"), 0, 0, 1, 5, 5, 6)
	m := made(t, "a|00b", way(1), "a|", "00b!")
	bytes(t, m, 0, 0, 1)
	bytes(t, m, 1, 1, 6)
}

// P17.2: where clusters begin at the column of the row's end, too, the first of them is told; behind it, the end.
func TestByteAtAnEndWithBeginnings(t *testing.T) {
	bytes(t, made(t, "a0", way(1), "a0!"), 0, 0, 1, 3)
	bytes(t, made(t, "a0_", way(1), "a0_!"), 0, 0, 1, 4)
	bytes(t, made(t, "0", way(1), "0!"), 0, 0, 2)
	m := made(t, "W00|b", way(2), "W00|", "b!")
	bytes(t, m, 0, 0, 0, 3, 7)
	bytes(t, m, 1, 7, 8)
	m = made(t, "0!_!a", way(1), "0!", "_!", "a!")
	bytes(t, m, 0, 0, 2)
	bytes(t, m, 1, 2, 3)
	bytes(t, m, 2, 3, 4)
}

// P17.2: spaces at a row's end are told as other clusters are.
func TestByteOfSpaces(t *testing.T) {
	bytes(t, made(t, "ab |c", way(2), "ab |", "c!"), 0, 0, 1, 2, 3)
	bytes(t, made(t, "a  =|b", way(1), "a  =|", "b!"), 0, 0, 1, 2, 3, 3, 7)
	bytes(t, made(t, "a =", way(1), "a =!"), 0, 0, 1, 2, 2, 6)
}

// P17.2: a row that ends by a hyphen ends at the column at which the hyphen stands, one that is cut behind its last cluster.
func TestByteAtHyphensAndCuts(t *testing.T) {
	bytes(t, made(t, "ab-cd", way(3), "ab-", "cd!"), 0, 0, 1, 2, 2)
	bytes(t, made(t, "abc-d", way(3), "abc/", "d!"), 0, 0, 1, 2, 3)
	bytes(t, made(t, "Wa", way(1), "W/", "a!"), 0, 0, 0, 3)
}

// P17.2, R3: rows that aren't there and columns below 0 are refused, whatever stands beside them.
func TestByteRange(t *testing.T) {
	for _, told := range []struct {
		text string
		rows int
	}{{"", 1}, {"a", 1}, {"0", 1}, {"aW!=|t", 2}, {"a!b!c", 3}} {
		m := broken(text(told.text), way(9))
		for row := range told.rows {
			for _, col := range []int{0, 1, 9, math.MaxInt} {
				if _, e := m.Byte(api.Spot{Row: row, Col: col}); e != api.OK {
					t.Errorf("P17.2: Byte of row %d, column %d of %q: %d", row, col, told.text, e)
				}
			}
			noByte(t, m, row, -1, api.ErrRange)
			noByte(t, m, row, math.MinInt, api.ErrRange)
		}
		for _, row := range []int{math.MinInt, -2, -1, told.rows, told.rows + 1, math.MaxInt} {
			for _, col := range []int{math.MinInt, -1, 0, 1, 9, math.MaxInt} {
				noByte(t, m, row, col, api.ErrRange)
			}
		}
	}
}
