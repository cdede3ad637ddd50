package auto

import "stanza/api"

// part is what is known of an expression's rows: whether the empty one is among them, and which places they may begin and end with.
type part struct {
	empty       bool
	first, last set
}

// places is the places of all expressions, and how they stand to each other.
type places struct {
	classes int
	count   int
	by      [api.MaxClasses]set // of each class: the places in whose sets it is
	next    [api.MaxPlaces]set  // of each place: those that may be the next behind it
	first   set                 // those that may be the first of a row of their expression
	last    []set               // of each expression: those that may be the last of a row of it
	empty   uint32              // the expressions that say the empty row, as bits
}

// read takes one more expression in; false, if it has too many places.
func (p *places) read(e api.Expr) bool {
	whole, ok := p.part(e)
	if !ok {
		return false
	}
	if whole.empty {
		p.empty |= 1 << len(p.last)
	}
	p.first.add(whole.first)
	p.last = append(p.last, whole.last)
	return true
}

// frame is an expression that is being read: its kids that weren't read yet, and what is known of it by the others.
type frame struct {
	op   api.ExprOp
	left []api.Expr
	part part
}

// part tells what is known of an expression; false, if it has too many places.
func (p *places) part(e api.Expr) (part, bool) {
	// What is open stands in a list, since expressions may be deeper than a stack. The first one has the expression as its only kid.
	open := []frame{{op: api.EAlt, left: []api.Expr{e}}}
	for {
		top := &open[len(open)-1]
		if len(top.left) > 0 {
			kid, ok := p.begin(top.left[0])
			if !ok {
				return part{}, false
			}
			top.left = top.left[1:]
			open = append(open, kid)
			continue
		}
		done := p.end(*top)
		open = open[:len(open)-1]
		if len(open) == 0 {
			return done, true
		}
		p.take(&open[len(open)-1], done)
	}
}

// begin tells what is known of an expression ahead of its kids; false, if it is a place, and one too many.
func (p *places) begin(e api.Expr) (frame, bool) {
	f := frame{op: e.Op}
	switch e.Op {
	case api.ESet:
		if p.count == api.MaxPlaces {
			return frame{}, false
		}
		f.part = p.place(e.Set)
	case api.ESeq:
		f.left, f.part.empty = e.Kids, true
	case api.EAlt:
		f.left = e.Kids
	case api.EStar, api.EOpt:
		f.left, f.part.empty = firstKid(e), true
	case api.EPlus:
		f.left = firstKid(e)
	default:
		f.part.empty = true
	}
	return f, true
}

func firstKid(e api.Expr) []api.Expr {
	return e.Kids[:min(1, len(e.Kids))]
}

// place puts one more place in, that is come to by some classes.
func (p *places) place(classes uint32) part {
	var s set
	s.put(p.count)
	p.count++
	for c := range p.classes {
		if classes>>c&1 == 1 {
			p.by[c].add(s)
		}
	}
	return part{first: s, last: s}
}

// take puts what is known of one more kid to what is known of an expression.
func (p *places) take(f *frame, kid part) {
	whole := &f.part
	if f.op != api.ESeq {
		whole.empty = whole.empty || kid.empty
		whole.first.add(kid.first)
		whole.last.add(kid.last)
		return
	}
	p.chain(whole.last, kid.first)
	if whole.empty {
		whole.first.add(kid.first)
	}
	if kid.empty {
		kid.last.add(whole.last)
	}
	whole.last = kid.last
	whole.empty = whole.empty && kid.empty
}

// end tells what is known of an expression behind all of its kids.
func (p *places) end(f frame) part {
	if f.op == api.EStar || f.op == api.EPlus {
		p.chain(f.part.last, f.part.first)
	}
	return f.part
}

// chain says that some places may be the next behind others.
func (p *places) chain(behind, next set) {
	if next == (set{}) {
		return
	}
	for i := range p.count {
		if behind.has(i) {
			p.next[i].add(next)
		}
	}
}
