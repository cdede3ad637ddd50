package lines_test

import (
	"iter"
	"strconv"
	"testing"

	"stanza/api"
)

// turn makes the next of all rows of numbers below a bound; false: that was the last one.
func turn(row []int, bound int) bool {
	for i := range row {
		row[i]++
		if row[i] < bound {
			return true
		}
		row[i] = 0
	}
	return false
}

// texts are all texts of so many clusters (one at least), of some sorts, with some things that may be done between them. The same memory is used for all of them.
func texts(n int, sorts string, opps ...api.Opp) iter.Seq[api.Para] {
	return func(yield func(api.Para) bool) {
		p := api.Para{Clusters: make([]api.Cluster, n), Opps: make([]api.Opp, n+1)}
		p.Opps[n] = api.Must
		clusters, between := make([]int, n), make([]int, n-1)
		for more := true; more; more = turn(clusters, len(sorts)) {
			at := 0
			for i, sort := range clusters {
				p.Clusters[i] = cluster(sorts[sort], at)
				at += p.Clusters[i].Len
			}
			for more := true; more; more = turn(between, len(opps)) {
				for i, opp := range between {
					p.Opps[i+1] = opps[opp]
				}
				if !yield(p) {
					return
				}
			}
		}
	}
}

// widths runs a test at each of some small widths, beside the others.
func widths(t *testing.T, most int, test func(t *testing.T, width int)) {
	for width := 1; width <= most; width++ {
		t.Run(strconv.Itoa(width), func(t *testing.T) {
			t.Parallel()
			test(t, width)
		})
	}
}

var looses = []float64{noNumber, infinite, 5, 2, 1, 0.5, 1.0 / 3, 0, minus0, -1, below}

// P16.1, P16.2: all texts of up to three clusters of all sorts, with all that may be done, at each Loose.
func TestAllOfThree(t *testing.T) {
	widths(t, 6, func(t *testing.T, width int) {
		for i, most := range looses {
			c := api.Config{Width: width, Tab: 1 + i%4, Mode: api.Best, Hyphen: i % 3, Pair: 100 * (i % 2), Loose: most}
			for n := 1; n <= 3; n++ {
				for p := range texts(n, sorts, api.Keep, api.May, api.Must, api.Hyphen) {
					hold(t, p, c)
				}
			}
		}
	})
}

// P16.1, P16.2: all texts of four clusters of each kind, with all that may be done.
func TestAllOfFour(t *testing.T) {
	widths(t, 5, func(t *testing.T, width int) {
		for _, most := range []float64{noNumber, 1} {
			c := api.Config{Width: width, Tab: 3, Mode: api.Best, Hyphen: 30, Pair: 12000, Loose: most}
			for p := range texts(4, "0aW t", api.Keep, api.May, api.Must, api.Hyphen) {
				hold(t, p, c)
			}
		}
	})
}

// P16.1, P16.2: all texts of six clusters of words with spaces, of several parts, where a line may end at most boundaries.
func TestAllOfSix(t *testing.T) {
	widths(t, 5, func(t *testing.T, width int) {
		for _, most := range []float64{noNumber, 1} {
			c := api.Config{Width: width, Tab: 2, Mode: api.Best, Hyphen: 100, Pair: 12000, Loose: most}
			for p := range texts(6, "a ", api.Keep, api.May, api.Must, api.Hyphen) {
				hold(t, p, c)
			}
		}
	})
}
