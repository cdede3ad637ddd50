package best_test

import (
	"iter"
	"strconv"
	"testing"

	"stanza/api"
)

// turn makes the next of all rows of numbers below a bound; false: that was the last one.
func turn(row []int, bound int) bool {
	for i := range row {
		row[i]++
		if row[i] < bound {
			return true
		}
		row[i] = 0
	}
	return false
}

// texts are all texts of so many clusters (one at least), of some sorts, with some things that may be done between them. The same memory is used for all of them.
func texts(n int, sorts string, opps ...api.Opp) iter.Seq[api.Para] {
	return func(yield func(api.Para) bool) {
		p := api.Para{Clusters: make([]api.Cluster, n), Opps: make([]api.Opp, n+1)}
		p.Opps[n] = api.Must
		clusters, between := make([]int, n), make([]int, n-1)
		for more := true; more; more = turn(clusters, len(sorts)) {
			for i, sort := range clusters {
				p.Clusters[i] = cluster(sorts[sort], i)
			}
			for more := true; more; more = turn(between, len(opps)) {
				for i, opp := range between {
					p.Opps[i+1] = opps[opp]
				}
				if !yield(p) {
					return
				}
			}
		}
	}
}

// widths runs a test at each of some small widths, beside the others.
func widths(t *testing.T, most int, test func(t *testing.T, width int)) {
	for width := 1; width <= most; width++ {
		t.Run(strconv.Itoa(width), func(t *testing.T) {
			t.Parallel()
			test(t, width)
		})
	}
}

// P15.1, P15.2: all texts of up to three clusters of all sorts, with all that may be done, from each boundary on.
func TestAllOfThree(t *testing.T) {
	widths(t, 6, func(t *testing.T, width int) {
		for i, most := range looses {
			c := api.Config{Width: width, Tab: 1 + i%4, Hyphen: i % 3, Pair: 100 * (i % 2), Loose: most}
			for n := 1; n <= 3; n++ {
				for p := range texts(n, sorts, api.Keep, api.May, api.Must, api.Hyphen) {
					holdCosts(t, p, c)
					for from := range p.Opps {
						holdBreak(t, p, from, c)
					}
				}
			}
		}
	})
}

// P15.2: all texts of four clusters of all sorts, with all that may be done, part by part.
func TestAllOfFour(t *testing.T) {
	widths(t, 5, func(t *testing.T, width int) {
		c := api.Config{Width: width, Tab: 3, Mode: api.Best, Loose: noNumber}
		for p := range texts(4, sorts, api.Keep, api.May, api.Must, api.Hyphen) {
			for from := 0; from < 4; from = must(p, from) {
				holdBreak(t, p, from, c)
			}
		}
	})
}

// P15.2: all texts of five clusters of each kind that are one part.
func TestAllOfFive(t *testing.T) {
	widths(t, 4, func(t *testing.T, width int) {
		for p := range texts(5, "0a t", api.Keep, api.May, api.Hyphen) {
			holdBreak(t, p, 0, api.Config{Width: width, Tab: 2, Mode: api.Best, Loose: 2, Hyphen: 100})
		}
	})
}

// P15.2: all texts of seven clusters of words with spaces, where a line may end at most boundaries: so that several rows may be.
func TestAllOfSeven(t *testing.T) {
	widths(t, 5, func(t *testing.T, width int) {
		for p := range texts(7, "a ", api.May, api.Hyphen) {
			holdBreak(t, p, 0, api.Config{Width: width, Tab: 2, Mode: api.Best, Loose: noNumber, Hyphen: 100, Pair: 12000})
		}
	})
}
