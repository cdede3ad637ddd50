package desk

import "stanza/flow"

// What there is to do, as a step's Do says it.
const (
	doEdit = iota
	doTurn
	doSpot
	doByte
	doings // how many there are
)

// deed is what steps of one Do do to a flow, and what of their answers it tells: all but the layout.
type deed struct {
	does func(f *flow.Flow, s Step) Answer
}

// deeds is each deed, at the place of its Do.
func deeds() [doings]deed {
	return [doings]deed{
		doEdit: {func(f *flow.Flow, s Step) Answer { return Answer{Err: f.Edit(s.Edit)} }},
		doTurn: {func(f *flow.Flow, s Step) Answer { return Answer{Err: f.Turn(s.Config)} }},
		doSpot: {spot},
		doByte: {place},
	}
}

func spot(f *flow.Flow, s Step) Answer {
	at, err := f.Spot(s.At, s.Back)
	return Answer{Err: err, Spot: at}
}

func place(f *flow.Flow, s Step) Answer {
	at, err := f.Byte(s.Spot)
	return Answer{Err: err, At: at}
}
