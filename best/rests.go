package best

import (
	"stanza/api"
	"stanza/span"
)

// rest is the lines that cost least from a boundary up to the part's end: whether some may be, what they cost, where the first one ends.
type rest struct {
	may  bool
	sum  int
	next int
}

// allRests tells the rests of all boundaries of a part, from the last one back: each is a line and the rest behind it. What a line costs hangs on its own two boundaries alone, so one rest a boundary will do.
func allRests(p api.Para, from, to int, c api.Config) []rest {
	rests := make([]rest, to-from+1)
	rests[to-from].may = true
	for at := to - 1; at >= from; at-- {
		// No line begins where none ends, but the first one.
		if _, ok := span.Ends(p, at); ok || at == from {
			rests[at-from] = leastRest(p, at, c, rests[at-from:])
		}
	}
	return rests
}

// leastRest is the rest of a boundary, of those behind it; of like ones that whose first line ends first.
func leastRest(p api.Para, from int, c api.Config, behind []rest) rest {
	var least rest
	var g growing
	ahead, _ := span.Ends(p, from)
	for i := 1; i < len(behind); i++ {
		g.add(p, from+i-1, c.Tab)
		if g.cells > c.Width {
			// Lines never get narrower as they grow: none that ends later fits.
			break
		}
		end, ok := span.Ends(p, from+i)
		if !ok || !behind[i].may {
			continue
		}
		s := shape{g.cells + hyphenCells(end), g.gaps, ahead, end, i == len(behind)-1}
		cost, ok := s.cost(c)
		if ok && (!least.may || cost+behind[i].sum < least.sum) {
			least = rest{true, cost + behind[i].sum, from + i}
		}
	}
	return least
}

// growing is a line that gets longer, cluster by cluster: what span tells of it, without its end, but not measured anew at each boundary.
type growing struct {
	col, spaces int // behind its last cluster
	cells, gaps int // behind its last one that isn't empty
}

func (g *growing) add(p api.Para, at, tab int) {
	cluster := p.Clusters[at]
	g.col = span.Next(cluster, g.col, tab)
	if cluster.Kind == api.Space {
		g.spaces++
	}
	if span.Trim(p, at, at+1) > at {
		g.cells, g.gaps = g.col, g.spaces
	}
}

// hyphenCells is how many cells an end has by itself.
func hyphenCells(end api.Opp) int {
	if end == api.Hyphen {
		return 1
	}
	return 0
}
