package rules

import "stanza/api"

func (r *reader) either() api.Expr {
	rows := []api.Expr{r.row()}
	for r.took("|") {
		rows = append(rows, r.row())
	}
	if len(rows) == 1 {
		return rows[0]
	}
	return api.Expr{Op: api.EAlt, Kids: rows}
}

func (r *reader) row() api.Expr {
	var things []api.Expr
	for begins(r.next()) {
		things = append(things, r.often(r.thing()))
	}
	switch len(things) {
	case 0:
		return api.Expr{Op: api.ENone}
	case 1:
		return things[0]
	}
	return api.Expr{Op: api.ESeq, Kids: things}
}

// begins tells whether a thing begins with a piece.
func begins(p piece) bool {
	return p.isName() || p.text == "." || p.text == "[" || p.text == "("
}

func (r *reader) thing() api.Expr {
	if p := r.next(); p.text == "(" {
		return r.bracket(p)
	}
	return api.Expr{Op: api.ESet, Set: r.some()}
}

// bracket reads what stands from a bracket ( up to its ).
func (r *reader) bracket(p piece) api.Expr {
	if r.open == api.MaxDepth {
		throw(api.ErrDeep, p.at)
	}
	r.take(p)
	r.open++
	inner := r.either()
	r.want(")")
	r.open--
	return inner
}

// some reads a thing that is no bracket (, and tells its classes.
func (r *reader) some() uint32 {
	if r.places == api.MaxPlaces {
		throw(api.ErrPlaces, r.next().at)
	}
	r.places++
	switch {
	case r.took("."):
		return r.all()
	case r.took("["):
		not := r.took("^")
		bits := r.names()
		r.want("]")
		if not {
			return r.all() &^ bits
		}
		return bits
	}
	return r.classes()
}

// all tells all classes that were declared ahead.
func (r *reader) all() uint32 {
	return 1<<len(r.out.Classes) - 1
}

// often reads what may stand behind a thing.
func (r *reader) often(thing api.Expr) api.Expr {
	var op api.ExprOp
	switch {
	case r.took("*"):
		op = api.EStar
	case r.took("+"):
		op = api.EPlus
	case r.took("?"):
		op = api.EOpt
	default:
		return thing
	}
	return api.Expr{Op: op, Kids: []api.Expr{thing}}
}
