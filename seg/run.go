package seg

import (
	"math/bits"
	"slices"

	"stanza/api"
	"stanza/auto"
)

// Run: what may be done at each boundary of signs of these classes.
func (m *Machine) Run(classes []int) []api.Opp {
	opps := make([]api.Opp, len(classes)+1) // all Keep
	opps[len(classes)] = api.Must
	if m.Classes() == 0 {
		return opps
	}
	alone := m.alone(classes)
	for i, does := range m.between(m.taken(classes, alone)) {
		// Ahead of the first one nothing is done, whatever the rules say.
		if i > 0 {
			opps[alone[i]] = does
		}
	}
	return opps
}

// alone tells the places of the things that don't join.
func (m *Machine) alone(classes []int) []int {
	var places []int
	after := false // is the last one of them in After? Ahead of the first thing there is none: so it doesn't join
	for i, number := range classes {
		class := classOf(number, m.Classes())
		if after && has(m.join, class) {
			continue
		}
		places = append(places, i)
		after = has(m.after, class)
	}
	return places
}

// taken tells as what the things at some places are taken.
func (m *Machine) taken(classes, places []int) []int {
	row := make([]int, len(places))
	for i, at := range places {
		row[i] = m.treat[classOf(classes[at], m.Classes())]
	}
	return row
}

// between tells what the rules do ahead of each thing of a row.
func (m *Machine) between(row []int) []api.Opp {
	back := slices.Clone(row)
	slices.Reverse(back)
	ahead, behind := auto.Run(m.left, row), auto.Run(m.right, back)
	opps := make([]api.Opp, len(row))
	for i := range opps {
		left, right := m.left.Out[ahead[i]], m.right.Out[behind[len(row)-i]]
		opps[i] = m.first(left & right)
	}
	return opps
}

// first tells what the first one of some rules does.
func (m *Machine) first(matched uint32) api.Opp {
	if matched == 0 {
		return api.May
	}
	return m.does[bits.TrailingZeros32(matched)]
}

// classOf takes a number that is no class as 0.
func classOf(number, classes int) int {
	if number < 0 || number >= classes {
		return 0
	}
	return number
}

func has(classes uint32, class int) bool {
	return classes>>class&1 == 1
}
