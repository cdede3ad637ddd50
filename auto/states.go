package auto

import "stanza/api"

// states tells the automaton whose states are the sets of places that may be come to.
func (p *places) states() (api.Auto, api.Errno) {
	var a api.Auto
	known := map[set]int{{}: 0}
	found := []set{{}}
	for n := 0; n < len(found); n++ {
		may := p.mayCome(found[n])
		ways := make([]int, p.classes)
		for c := range p.classes {
			s := may.both(p.by[c])
			to, ok := known[s]
			if !ok {
				to = len(found)
				if to == api.MaxStates {
					return api.Auto{}, api.ErrStates
				}
				known[s] = to
				found = append(found, s)
			}
			ways[c] = to
		}
		a.Next = append(a.Next, ways)
		a.Out = append(a.Out, p.out(found[n]))
	}
	return a, api.OK
}

// mayCome tells the places that are come to behind a state, each by the classes of its set.
func (p *places) mayCome(state set) set {
	may := p.first
	for i := range p.count {
		if state.has(i) {
			may.add(p.next[i])
		}
	}
	return may
}

// out tells the expressions of which a row ends at a state.
func (p *places) out(state set) uint32 {
	ended := p.empty
	for i, last := range p.last {
		if state.both(last) != (set{}) {
			ended |= 1 << i
		}
	}
	return ended
}
