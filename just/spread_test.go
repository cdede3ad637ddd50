package just_test

import (
	"math"
	"slices"
	"testing"

	"stanza/just"
)

// The bounds, as the chapter writes them.
const (
	mostRoom = 1048576
	mostGaps = 4096
)

// spreads holds Spread against what is wanted; of no numbers: that there are none.
func spreads(t *testing.T, room, gaps int, want ...int) {
	t.Helper()
	if got := just.Spread(room, gaps); !slices.Equal(got, want) {
		t.Errorf("P18.1: Spread of %d over %d: %v, want %v", room, gaps, got, want)
	}
}

// The chapter's examples.
func TestSpreadExamples(t *testing.T) {
	spreads(t, 5, 3, 1, 2, 2)
	spreads(t, -1, 3)
}

// P18.1: room that is a multiple of the gaps, one more, one less, and less than the gaps.
func TestSpread(t *testing.T) {
	spreads(t, 0, 1, 0)
	spreads(t, 0, 4, 0, 0, 0, 0)
	spreads(t, 1, 1, 1)
	spreads(t, 7, 1, 7)
	spreads(t, 1, 2, 0, 1)
	spreads(t, 2, 2, 1, 1)
	spreads(t, 3, 2, 1, 2)
	spreads(t, 1, 4, 0, 0, 0, 1)
	spreads(t, 2, 4, 0, 1, 0, 1)
	spreads(t, 3, 4, 0, 1, 1, 1)
	spreads(t, 4, 4, 1, 1, 1, 1)
	spreads(t, 5, 4, 1, 1, 1, 2)
	spreads(t, 11, 4, 2, 3, 3, 3)
	spreads(t, 12, 4, 3, 3, 3, 3)
	spreads(t, 13, 4, 3, 3, 3, 4)
	spreads(t, 3, 5, 0, 1, 0, 1, 1)
	spreads(t, 2, 5, 0, 0, 1, 0, 1)
	spreads(t, 17, 5, 3, 3, 4, 3, 4)
	spreads(t, 10, 7, 1, 1, 2, 1, 2, 1, 2)
}

// P18.1: room is from 0 to 2^20, whatever the gaps.
func TestSpreadRoomEdges(t *testing.T) {
	for _, gaps := range []int{1, 2, 3, 77, mostGaps} {
		for _, room := range []int{math.MinInt, math.MinInt + 1, math.MinInt32, -mostRoom, -2, -1, mostRoom + 1, mostRoom + 2, 2 * mostRoom, math.MaxInt32, 1 << 32, 1<<32 + 5, 1 << 52, math.MaxInt - 1, math.MaxInt} {
			spreads(t, room, gaps)
		}
		for _, room := range []int{0, 1, mostRoom - 1, mostRoom} {
			if got := just.Spread(room, gaps); len(got) != gaps {
				t.Errorf("P18.1: Spread of %d over %d: %d numbers", room, gaps, len(got))
			}
		}
	}
	spreads(t, mostRoom, 1, mostRoom)
	spreads(t, mostRoom, 2, 524288, 524288)
	spreads(t, mostRoom, 3, 349525, 349525, 349526)
	spreads(t, mostRoom-1, 3, 349525, 349525, 349525)
	spreads(t, mostRoom-1, 2, 524287, 524288)
}

// P18.1: gaps are from 1 to 4096, whatever the room.
func TestSpreadGapsEdges(t *testing.T) {
	for _, room := range []int{0, 1, 5, mostGaps, mostRoom} {
		for _, gaps := range []int{math.MinInt, math.MinInt + 1, math.MinInt32, -mostGaps, -3, -1, 0, mostGaps + 1, mostGaps + 2, mostRoom, math.MaxInt32, 1 << 32, 1<<32 + 3, math.MaxInt - 1, math.MaxInt} {
			spreads(t, room, gaps)
		}
		for _, gaps := range []int{1, 2, mostGaps - 1, mostGaps} {
			if got := just.Spread(room, gaps); len(got) != gaps {
				t.Errorf("P18.1: Spread of %d over %d: %d numbers", room, gaps, len(got))
			}
		}
	}
	spreads(t, mostRoom, mostGaps, slices.Repeat([]int{256}, mostGaps)...)
	spreads(t, 0, mostGaps, make([]int, mostGaps)...)
	spreads(t, 1, mostGaps, append(make([]int, mostGaps-1), 1)...)
	spreads(t, mostGaps-1, mostGaps, append([]int{0}, slices.Repeat([]int{1}, mostGaps-1)...)...)
	spreads(t, mostGaps+1, mostGaps, append(slices.Repeat([]int{1}, mostGaps-1), 2)...)
	spreads(t, mostRoom-1, mostGaps, append([]int{255}, slices.Repeat([]int{256}, mostGaps-1)...)...)
}

// P18.1, R3: where both are wrong there is nothing, too.
func TestSpreadBothWrong(t *testing.T) {
	for _, room := range []int{math.MinInt, -1, mostRoom + 1, math.MaxInt} {
		for _, gaps := range []int{math.MinInt, -1, 0, mostGaps + 1, math.MaxInt} {
			spreads(t, room, gaps)
		}
	}
}

// slowSpread gives cell by cell: of room times gaps pieces each gap has room many, and is given a cell for each gaps many that are whole.
func slowSpread(room, gaps int) []int {
	if room < 0 || room > mostRoom || gaps < 1 || gaps > mostGaps {
		return nil
	}
	var l []int
	pieces := 0
	for range gaps {
		n := 0
		for pieces += room; pieces >= gaps; pieces -= gaps {
			n++
		}
		l = append(l, n)
	}
	return l
}

// holdSpread holds Spread against the chapter's words and a slow one (P18.1), its sum, and the greatest less the least (P18.3).
func holdSpread(t *testing.T, room, gaps int) {
	t.Helper()
	got := just.Spread(room, gaps)
	if !slices.Equal(got, slowSpread(room, gaps)) {
		t.Fatalf("P18.1: Spread of %d over %d: %v", room, gaps, got)
	}
	if len(got) == 0 {
		return
	}
	sum := 0
	for i, n := range got {
		// The chapter's own words: room (i + 1) / gaps less room i / gaps, each cut down.
		if want := math.Floor(float64(room*(i+1))/float64(gaps)) - math.Floor(float64(room*i)/float64(gaps)); float64(n) != want {
			t.Fatalf("P18.1: Spread of %d over %d: %d at %d, want %v", room, gaps, n, i, want)
		}
		sum += n
	}
	if sum != room {
		t.Fatalf("P18.3: Spread of %d over %d: %d in all", room, gaps, sum)
	}
	if slices.Max(got)-slices.Min(got) > 1 {
		t.Fatalf("P18.3: Spread of %d over %d: from %d to %d", room, gaps, slices.Min(got), slices.Max(got))
	}
}

// P18.1, P18.3: all small rooms over all small gaps.
func TestSpreadSmall(t *testing.T) {
	for room := -2; room <= 150; room++ {
		for gaps := -2; gaps <= 80; gaps++ {
			holdSpread(t, room, gaps)
		}
	}
}

// P18.1, P18.3: each number of gaps there is, with room about a multiple of it, and with little and much.
func TestSpreadEachGaps(t *testing.T) {
	for gaps := 1; gaps <= mostGaps; gaps += 1 + gaps/64 {
		for _, room := range []int{0, 1, gaps - 1, gaps, gaps + 1, 2*gaps - 1, 2*gaps + 1, 100*gaps + gaps/2} {
			holdSpread(t, room, gaps)
		}
	}
	for _, gaps := range []int{1, 2, 3, 5, 63, 64, 65, 999, 1365, 2047, 2048, 2049, mostGaps - 2, mostGaps - 1, mostGaps} {
		for _, room := range []int{mostRoom / 3, mostRoom/2 - 1, mostRoom / 2, mostRoom - mostGaps, mostRoom - 2, mostRoom - 1, mostRoom, mostRoom + 1} {
			holdSpread(t, room, gaps)
		}
	}
}

// P18.1, P18.3: many rooms and gaps.
func TestSpreadMany(t *testing.T) {
	d := dice(181)
	for range 3000 {
		holdSpread(t, d.roll(mostRoom+1), 1+d.roll(300))
		holdSpread(t, d.roll(5000), 1+d.roll(mostGaps))
	}
}

func FuzzSpread(f *testing.F) {
	f.Add(5, 3)
	f.Add(-1, 3)
	f.Add(mostRoom, mostGaps)
	f.Add(mostRoom+1, mostGaps+1)
	f.Fuzz(holdSpread)
}
