package edit_test

import (
	"math"
	"math/big"
	"slices"
	"testing"

	"stanza/api"
	"stanza/edit"
)

// mostBytes is the bound, as the chapter writes it.
const mostBytes = 4096

// change is one that takes so many bytes at a place, and brings so many.
func change(at, del, ins int) api.Edit {
	return api.Edit{At: at, Del: del, Ins: make([]byte, ins)}
}

func checks(t *testing.T, n int, e api.Edit, want api.Errno) {
	t.Helper()
	if got := edit.Check(n, e); got != want {
		t.Errorf("P19.1: Check(%d): At %d, Del %d, %d bytes: %d, want %d", n, e.At, e.Del, len(e.Ins), got, want)
	}
}

// P19.1: the place and the bytes that go are of the text.
func TestCheckPlaces(t *testing.T) {
	for _, told := range []struct {
		n, at, del int
		want       api.Errno
	}{
		{0, 0, 0, api.OK}, {0, 0, 1, api.ErrEdit}, {0, 1, 0, api.ErrEdit},
		{1, 0, 0, api.OK}, {1, 0, 1, api.OK}, {1, 1, 0, api.OK},
		{1, 1, 1, api.ErrEdit}, {1, 0, 2, api.ErrEdit}, {1, 2, 0, api.ErrEdit},
		{4, 0, 4, api.OK}, {4, 1, 3, api.OK}, {4, 3, 1, api.OK}, {4, 4, 0, api.OK},
		{4, 0, 5, api.ErrEdit}, {4, 1, 4, api.ErrEdit}, {4, 3, 2, api.ErrEdit}, {4, 4, 1, api.ErrEdit}, {4, 5, 0, api.ErrEdit},
		{4, -1, 0, api.ErrEdit}, {4, -1, 2, api.ErrEdit}, {4, -4, 4, api.ErrEdit},
		{4, 0, -1, api.ErrEdit}, {4, 2, -1, api.ErrEdit}, {4, 4, -4, api.ErrEdit}, {4, 5, -1, api.ErrEdit},
		{4, -1, -1, api.ErrEdit}, {0, -1, 1, api.ErrEdit}, {0, 1, -1, api.ErrEdit},
		{mostBytes, mostBytes, 0, api.OK}, {mostBytes, 0, mostBytes, api.OK}, {mostBytes, 1, mostBytes, api.ErrEdit},
	} {
		checks(t, told.n, change(told.at, told.del, 0), told.want)
		checks(t, told.n, api.Edit{At: told.at, Del: told.del}, told.want)
	}
}

// P19.1: At and Del at the bounds of an int, their sum beyond them.
func TestCheckPlacesBeyond(t *testing.T) {
	bounds := []int{math.MinInt, math.MinInt + 1, math.MinInt32, math.MaxInt32 + 1, math.MaxInt - 1, math.MaxInt}
	for _, n := range []int{0, 1, 2, 4, mostBytes} {
		for _, bound := range bounds {
			for _, other := range append(slices.Clone(bounds), -1, 0, 1, 2, n, n+1) {
				checks(t, n, change(bound, other, 0), api.ErrEdit)
				checks(t, n, change(other, bound, 0), api.ErrEdit)
			}
		}
	}
	// Sums that wrap round to a number from 0 up to n, if they aren't looked at.
	checks(t, 4, change(math.MaxInt, math.MaxInt, 0), api.ErrEdit)
	checks(t, 4, change(math.MinInt, math.MinInt, 0), api.ErrEdit)
	checks(t, 4, change(math.MinInt+2, math.MaxInt, 0), api.ErrEdit)
}

// P19.1: of a text as long as an int goes.
func TestCheckLongest(t *testing.T) {
	n := math.MaxInt
	checks(t, n, change(0, n, 0), api.OK)
	checks(t, n, change(0, n, mostBytes), api.OK)
	checks(t, n, change(0, n, mostBytes+1), api.ErrText)
	checks(t, n, change(1, n, 0), api.ErrEdit)
	checks(t, n, change(1, n-1, 0), api.OK)
	checks(t, n, change(1, n-1, mostBytes-1), api.OK)
	checks(t, n, change(1, n-1, mostBytes), api.ErrText)
	checks(t, n, change(2, n-1, 0), api.ErrEdit)
	checks(t, n, change(n, 0, 0), api.ErrText)
	checks(t, n, change(n, 0, 1), api.ErrText)
	checks(t, n, change(n, 0, mostBytes), api.ErrText)
	checks(t, n, change(n, 1, 0), api.ErrEdit)
	checks(t, n, change(n, n, 0), api.ErrEdit)
	checks(t, n, change(0, n-mostBytes, 0), api.OK)
	checks(t, n, change(0, n-mostBytes-1, 0), api.ErrText)
	checks(t, n, change(mostBytes, n-mostBytes, 0), api.OK)
	checks(t, n-1, change(0, n, 0), api.ErrEdit)
}

// P19.1: Ins has at most 4096 bytes, however short the text becomes that it comes to.
func TestCheckIns(t *testing.T) {
	checks(t, 0, change(0, 0, mostBytes-1), api.OK)
	checks(t, 0, change(0, 0, mostBytes), api.OK)
	checks(t, 0, change(0, 0, mostBytes+1), api.ErrText)
	checks(t, 3, change(0, 3, mostBytes), api.OK)
	checks(t, 3, change(0, 3, mostBytes+1), api.ErrText)
	checks(t, mostBytes, change(0, mostBytes, mostBytes), api.OK)
	checks(t, mostBytes, change(0, mostBytes, mostBytes+1), api.ErrText)
	checks(t, mostBytes, change(0, mostBytes, 3*mostBytes), api.ErrText)
}

// P19.1: the text that comes of it has at most 4096 bytes, wherever they come.
func TestCheckBecomes(t *testing.T) {
	for _, told := range []struct{ n, del, most int }{
		{1, 0, 4095}, {1, 1, 4096}, {3, 0, 4093}, {3, 2, 4095}, {2048, 0, 2048}, {2048, 1, 2049},
		{4095, 0, 1}, {4095, 1, 2}, {4095, 4095, 4096}, {4096, 0, 0}, {4096, 1, 1}, {4096, 2048, 2048}, {4096, 4095, 4095},
	} {
		for _, at := range []int{0, (told.n - told.del) / 2, told.n - told.del} {
			checks(t, told.n, change(at, told.del, 0), api.OK)
			checks(t, told.n, change(at, told.del, told.most), api.OK)
			checks(t, told.n, change(at, told.del, told.most+1), api.ErrText)
		}
	}
}

// P19.1: a text that is longer than 4096 bytes already, made shorter, and not.
func TestCheckTooLongAlready(t *testing.T) {
	checks(t, mostBytes+1, change(0, 0, 0), api.ErrText)
	checks(t, mostBytes+1, change(0, 1, 0), api.OK)
	checks(t, mostBytes+1, change(mostBytes, 1, 0), api.OK)
	checks(t, mostBytes+1, change(7, 1, 1), api.ErrText)
	checks(t, mostBytes+1, change(7, 2, 1), api.OK)
	checks(t, mostBytes+1, change(0, mostBytes+1, mostBytes), api.OK)
	checks(t, mostBytes+1, change(0, mostBytes+1, mostBytes+1), api.ErrText)
	checks(t, 2*mostBytes, change(0, mostBytes-1, 0), api.ErrText)
	checks(t, 2*mostBytes, change(0, mostBytes, 0), api.OK)
	checks(t, 2*mostBytes, change(9, mostBytes, 1), api.ErrText)
	checks(t, 2*mostBytes, change(9, mostBytes+1, 1), api.OK)
	checks(t, 2*mostBytes, change(0, 2*mostBytes, 0), api.OK)
}

// P19.1, R2: where both errors stand, the place's is told.
func TestCheckBoth(t *testing.T) {
	for _, e := range []api.Edit{change(-1, 0, 0), change(0, -1, 0), change(mostBytes+2, 0, 0), change(0, mostBytes+2, 0), change(1, mostBytes+1, 0), change(math.MaxInt, math.MaxInt, 0)} {
		for _, ins := range []int{0, 1, mostBytes, mostBytes + 1} {
			e.Ins = make([]byte, ins)
			checks(t, 3, e, api.ErrEdit)
			checks(t, mostBytes+1, e, api.ErrEdit)
		}
	}
}

// P19.1, R5: which bytes come counts for nothing, nor whether none are nil or an empty list, nor spare room.
func TestCheckBytes(t *testing.T) {
	room := make([]byte, 2*mostBytes)
	for i := range room {
		room[i] = byte(i)
	}
	for _, ins := range [][]byte{nil, {}, room[:0], room[:1]} {
		checks(t, 3, api.Edit{At: 1, Del: 1, Ins: ins}, api.OK)
		checks(t, 3, api.Edit{At: 3, Del: 1, Ins: ins}, api.ErrEdit)
		checks(t, mostBytes+1, api.Edit{At: 1, Ins: ins}, api.ErrText)
	}
	checks(t, 0, api.Edit{Ins: room[:mostBytes]}, api.OK)
	checks(t, 0, api.Edit{Ins: room[:mostBytes+1]}, api.ErrText)
}

// slowCheck is the chapter's words, in numbers of any size.
func slowCheck(n int, e api.Edit) api.Errno {
	whole, at, del, ins := big.NewInt(int64(n)), big.NewInt(int64(e.At)), big.NewInt(int64(e.Del)), big.NewInt(int64(len(e.Ins)))
	if at.Sign() < 0 || del.Sign() < 0 || new(big.Int).Add(at, del).Cmp(whole) > 0 {
		return api.ErrEdit
	}
	becomes := new(big.Int).Add(new(big.Int).Sub(whole, del), ins)
	if most := big.NewInt(mostBytes); ins.Cmp(most) > 0 || becomes.Cmp(most) > 0 {
		return api.ErrText
	}
	return api.OK
}

// P19.1, P1: Check at all of these numbers.
func TestCheckAllNumbers(t *testing.T) {
	var ns []int
	for _, middle := range []int{0, mostBytes, 2 * mostBytes, 1 << 32, math.MaxInt - mostBytes} {
		for n := max(middle-2, 0); n <= middle+2; n++ {
			ns = append(ns, n)
		}
	}
	ns = append(ns, math.MaxInt-1, math.MaxInt)
	ints := append(slices.Clone(ns), math.MinInt, math.MinInt+1, -mostBytes, -2, -1, 77)
	room := make([]byte, 2*mostBytes)
	seen := map[api.Errno]int{}
	for _, n := range ns {
		for _, at := range ints {
			for _, del := range ints {
				for _, ins := range []int{0, 1, 2, mostBytes - 1, mostBytes, mostBytes + 1, 2 * mostBytes} {
					e := api.Edit{At: at, Del: del, Ins: room[:ins]}
					want := slowCheck(n, e)
					checks(t, n, e, want)
					seen[want]++
				}
			}
		}
	}
	if seen[api.OK] < 100 || seen[api.ErrText] < 100 || seen[api.ErrEdit] < 100 {
		t.Errorf("too few of one answer: %v", seen)
	}
}

// P1: of a number of bytes that no text has nothing is promised; by the words alone no place is of it, whatever is asked for.
func TestCheckNoText(t *testing.T) {
	ints := []int{math.MinInt, math.MinInt + 1, -mostBytes, -1, 0, 1, mostBytes, math.MaxInt - 1, math.MaxInt}
	for _, n := range []int{math.MinInt, math.MinInt + 1, -mostBytes, -2, -1} {
		for _, at := range ints {
			for _, del := range ints {
				checks(t, n, change(at, del, 0), api.ErrEdit)
				checks(t, n, change(at, del, mostBytes+1), api.ErrEdit)
			}
		}
	}
}
