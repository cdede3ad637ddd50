package least

import (
	"cmp"
	"slices"

	"stanza/api"
)

// groups are the states that nothing has told apart so far, group by group.
type groups struct {
	row  []int // the states, each group's one behind the other
	at   []int // where in row each state stands
	of   []int // in which group it is
	list []group
}

// group is where in row a group's states begin and end, and how many of the first ones were told to do alike.
type group struct{ from, to, told int }

// oneGroup tells so many states, none of them told apart.
func oneGroup(states int) *groups {
	g := &groups{row: make([]int, states), at: make([]int, states), of: make([]int, states)}
	for s := range states {
		g.row[s], g.at[s] = s, s
	}
	g.list = []group{{to: states}}
	return g
}

// grouped tells the group of each state: two states are in one group if they tell the same Out behind every row of classes.
func grouped(a api.Auto) []int {
	g := oneGroup(len(a.Next))
	for _, states := range sameOut(a) {
		g.split(each(states))
	}
	back := waysBack(a)
	// Each number is looked at once, though its group may be parted behind that: what leads to the whole, and what leads to the smaller part, which has a new number, tell what leads to the greater one.
	for i := 0; i < len(g.list); i++ {
		goal := slices.Clone(g.states(g.list[i])) // as it is now: it may itself be parted
		for c := range back {
			g.split(leading(back[c], goal))
		}
	}
	return g.of
}

// sameOut tells the states by what their Out is.
func sameOut(a api.Auto) [][]int {
	states := make([]int, len(a.Out))
	for s := range states {
		states[s] = s
	}
	slices.SortFunc(states, func(s, t int) int { return cmp.Compare(a.Out[s], a.Out[t]) })
	var same [][]int
	from := 0
	for i := range states {
		if i+1 == len(states) || a.Out[states[i]] != a.Out[states[i+1]] {
			same = append(same, states[from:i+1])
			from = i + 1
		}
	}
	return same
}

// waysBack tells by each class, of each state, which ones lead to it.
func waysBack(a api.Auto) [][][]int {
	back := make([][][]int, len(a.Next[0]))
	for c := range back {
		back[c] = make([][]int, len(a.Next))
		for s, ways := range a.Next {
			to := ways[c]
			back[c][to] = append(back[c][to], s)
		}
	}
	return back
}

// leading: what the states do alike that are told is that they lead to one of goal. None is told twice, since a state has one way by a class.
func leading(back [][]int, goal []int) func(tell func(state int)) {
	return func(tell func(state int)) {
		for _, to := range goal {
			each(back[to])(tell)
		}
	}
}

// each tells the states of a list.
func each(states []int) func(tell func(state int)) {
	return func(tell func(state int)) {
		for _, s := range states {
			tell(s)
		}
	}
}

// split parts each group into the states that alike tells, and the others.
func (g *groups) split(alike func(tell func(state int))) {
	var met []int
	alike(func(s int) {
		i := g.of[s]
		if g.list[i].told == 0 {
			met = append(met, i)
		}
		g.swap(g.at[s], g.list[i].from+g.list[i].told)
		g.list[i].told++
	})
	for _, i := range met {
		g.part(i)
	}
}

// swap lets the states at two places of row change places.
func (g *groups) swap(i, j int) {
	s, t := g.row[i], g.row[j]
	g.row[i], g.row[j] = t, s
	g.at[s], g.at[t] = j, i
}

// part makes the smaller one of a group's two parts a group of its own: each state then changes its group but few times. If all were told, there is one part alone.
func (g *groups) part(i int) {
	whole := g.list[i]
	mid := whole.from + whole.told
	greater, smaller := group{from: whole.from, to: mid}, group{from: mid, to: whole.to}
	if greater.size() < smaller.size() {
		greater, smaller = smaller, greater
	}
	g.list[i] = greater
	if smaller.size() == 0 {
		return
	}
	for _, s := range g.states(smaller) {
		g.of[s] = len(g.list)
	}
	g.list = append(g.list, smaller)
}

func (g *groups) states(one group) []int { return g.row[one.from:one.to] }

func (one group) size() int { return one.to - one.from }
