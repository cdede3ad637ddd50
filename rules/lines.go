package rules

import (
	"slices"
	"strings"

	"stanza/api"
)

// lineKinds tells what a line does, by the word that it begins with.
func lineKinds() map[string]func(*reader, piece) {
	return map[string]func(*reader, piece){
		"class": (*reader).class,
		"set":   (*reader).set,
		"join":  (*reader).join,
		"treat": (*reader).treat,
		"keep":  (*reader).keep,
		"may":   (*reader).may,
		"must":  (*reader).must,
	}
}

func (r *reader) lines() {
	kinds := lineKinds()
	for {
		word := r.next()
		if word.text == "" {
			return
		}
		read, ok := kinds[word.text]
		if !ok {
			throw(api.ErrParse, word.at)
		}
		r.take(word)
		read(r, word)
		r.want(";")
	}
}

func (r *reader) class(piece) {
	for r.next().isName() {
		name := r.fresh()
		place := len(r.out.Classes)
		if place == api.MaxClasses {
			throw(api.ErrMany, name.at)
		}
		// A piece of the text would share its memory.
		r.out.Classes = append(r.out.Classes, strings.Clone(name.text))
		r.out.Treat = append(r.out.Treat, place)
		r.bits[name.text] = 1 << place
	}
}

func (r *reader) set(piece) {
	name := r.fresh()
	r.want("=")
	// The set is declared behind its classes: among them it isn't there yet.
	r.bits[name.text] = r.names()
}

func (r *reader) join(piece) {
	r.out.Join |= r.names()
	r.want("/")
	r.out.After |= r.names()
}

func (r *reader) treat(piece) {
	place := r.place()
	r.want("=")
	r.out.Treat[place] = r.place()
}

func (r *reader) keep(word piece) { r.rule(word, api.Keep) }

func (r *reader) may(word piece) { r.rule(word, api.May) }

func (r *reader) must(word piece) { r.rule(word, api.Must) }

func (r *reader) rule(word piece, does api.Opp) {
	if len(r.out.List) == api.MaxRules {
		throw(api.ErrMany, word.at)
	}
	left := r.either()
	r.want("/")
	right := r.either()
	r.out.List = append(r.out.List, api.Rule{Does: does, Left: left, Right: right})
}

// fresh reads a name that is to be declared.
func (r *reader) fresh() piece {
	name := r.name()
	if _, there := r.bits[name.text]; there {
		throw(api.ErrTwice, name.at)
	}
	return name
}

// names reads names, as many as there are, and tells all their classes.
func (r *reader) names() uint32 {
	var all uint32
	for r.next().isName() {
		all |= r.classes()
	}
	return all
}

// classes reads a name, and tells its classes.
func (r *reader) classes() uint32 {
	name := r.name()
	bits, there := r.bits[name.text]
	if !there {
		throw(api.ErrName, name.at)
	}
	return bits
}

// place reads a class's name, and tells which class it is.
func (r *reader) place() int {
	name := r.name()
	place := slices.Index(r.out.Classes, name.text)
	if place < 0 {
		throw(api.ErrName, name.at)
	}
	return place
}
