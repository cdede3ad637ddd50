package hyph_test

import (
	"slices"
	"testing"

	"stanza/api"
	"stanza/hyph"
	"stanza/scal"
)

// roomy gives a list spare room that is filled with a thing.
func roomy[T any](l []T, with T) []T {
	whole := append(slices.Clone(l), with, with, with)
	return whole[:len(l)]
}

// sameRoom holds a list and its spare room against what roomy made.
func sameRoom[T comparable](got, l []T, with T) bool {
	return len(got) == len(l) && slices.Equal(got[:len(l)+3], append(slices.Clone(l), with, with, with))
}

const memoryText = "hy1p ta-ble 1z .a1b x-y-z"

func memoryHyphens(t *testing.T) *hyph.Hyphens { return made(t, memoryText, folded(), 1, 2) }

// memoryHolds asks a Hyphens of memoryText all that it may be asked.
func memoryHolds(t *testing.T, h *hyph.Hyphens) {
	t.Helper()
	letter(t, h, 'A', 'a')
	letter(t, h, 'z', 'z')
	noLetter(t, h, '0', '[', '{')
	words(t, h, "hy|phen", "ta|ble", "a|bhyp", "x|yz", "a|zz", "HYPHEN")
	texts(t, h, "HY|phen ta|BLE", "x|YZ0a|bc", "{hy|phen{")
}

// R6: what is handed in isn't changed, spare room included; nor is that room read.
func TestHandedInStays(t *testing.T) {
	more := api.Range{Lo: '{', Hi: '}', To: 'a'}
	ranges := roomy(folded(), more)
	if !hyph.Check(ranges) || !sameRoom(ranges, folded(), more) {
		t.Errorf("R6: Check changed its ranges: %v", ranges)
	}
	h := made(t, memoryText, ranges, 1, 2)
	memoryHolds(t, h)
	if !sameRoom(ranges, folded(), more) {
		t.Errorf("R6: New changed its ranges: %v", ranges)
	}
	wrong := roomy([]api.Range{{Lo: 9, Hi: 8}}, more)
	fault(t, "", wrong, 1, 1, api.Fault{Code: api.ErrTable})
	if !sameRoom(wrong, []api.Range{{Lo: 9, Hi: 8}}, more) {
		t.Errorf("R6: New changed its wrong ranges: %v", wrong)
	}
	for _, x := range []string{"hyphen", "table", "tab", ""} {
		row := []int32(x)
		word := roomy(row, 'z')
		h.Word(word)
		if !sameRoom(word, row, 'z') {
			t.Errorf("R6: Word changed its word: %v", word)
		}
		signs := scal.All([]byte("table " + x))
		l := roomy(signs, api.Scalar{R: 'z'})
		if got := h.Points(l); len(got) != len(signs)+1 || !sameRoom(l, signs, api.Scalar{R: 'z'}) {
			t.Errorf("R6: Points changed its signs: %v", l)
		}
	}
	if got := cut([]int32("table"), h.Word(roomy([]int32("table"), 's'))); got != "ta|ble" {
		t.Errorf("R6: a word's spare room was read: %s", got)
	}
	if got := cut([]int32("table"), h.Points(roomy(scal.All([]byte("table")), api.Scalar{R: 's'}))); got != "ta|ble" {
		t.Errorf("R6: the signs' spare room was read: %s", got)
	}
}

// R6: what is done to lists behind a call changes no answer.
func TestHandedInIsNotKept(t *testing.T) {
	ranges := roomy(folded(), api.Range{})
	h := made(t, memoryText, ranges, 1, 2)
	for i := range ranges {
		ranges[i] = api.Range{Lo: '0', Hi: '9', To: '0'}
		memoryHolds(t, h)
	}
	clear(ranges[:cap(ranges)])
	memoryHolds(t, h)

	word, signs := []int32("hyphen"), scal.All([]byte("hyphen table"))
	first, second := h.Word(word), h.Points(signs)
	clear(word)
	clear(signs)
	if got := cut([]int32("hyphen"), first); got != "hy|phen" {
		t.Errorf("R6: a word was cleared, and its answer is %s", got)
	}
	if got := cut([]int32("hyphen table"), second); got != "hy|phen ta|ble" {
		t.Errorf("R6: signs were cleared, and their answer is %s", got)
	}
	memoryHolds(t, h)
}

// flip turns an answer into its contrary, its spare room included.
func flip(points []bool) {
	whole := points[:cap(points)]
	for i := range whole {
		whole[i] = !whole[i]
	}
}

// R6: an answer may be changed, its spare room included, without changing another one or the Hyphens.
func TestAnswersStandApart(t *testing.T) {
	h := memoryHyphens(t)
	ask := func() [][]bool {
		var l [][]bool
		for _, x := range []string{"table", "table", "hyphen", "", "", "a", "xyz", "x y", " "} {
			l = append(l, h.Word([]int32(x)), h.Points(scal.All([]byte(x))))
		}
		return l
	}
	answers, wanted := ask(), ask()
	for i := range answers {
		flip(answers[i])
		for j := i + 1; j < len(answers); j++ {
			if !slices.Equal(answers[j], wanted[j]) {
				t.Errorf("R6: changing answer %d changed answer %d: %v", i, j, answers[j])
			}
		}
		memoryHolds(t, h)
	}
	var none *hyph.Hyphens
	flip(none.Word([]int32("ab")))
	flip(none.Points(scal.All([]byte("ab"))))
	words(t, none, "ab")
	texts(t, none, "ab")
}

// R6, R8: what one Hyphens holds, another one doesn't; asking changes nothing, in whatever order it is done.
func TestHyphensStandApart(t *testing.T) {
	h := memoryHyphens(t)
	other := made(t, "t1able hy-phen", small(), 1, 1)
	for range 3 {
		words(t, other, "t|able", "hy|phen", "xyz")
		noLetter(t, other, 'A')
		texts(t, other, "t|able TABLE", "hy|phen HYPHEN")
		memoryHolds(t, h)
		fault(t, "12", small(), 1, 1, api.Fault{Code: api.ErrPattern})
		made(t, "", nil, 24, 24)
		memoryHolds(t, h)
	}
}
