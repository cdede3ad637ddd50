package flow

import (
	"stanza/api"
	"stanza/items"
	"stanza/lines"
	"stanza/place"
)

// laid is what clusters are laid out as: lines, and whether they are told loose. Those of a part that is kept are told from the part's beginning on, so that they hold wherever it stands.
type laid struct {
	lines []api.Line
	loose bool
}

// lay lays the text out, part by part, and gives up the parts that aren't there any more.
func (f *Flow) lay() {
	f.laid = laid{}
	uses := map[string]int{}
	from := 0
	for _, to := range items.Parts(f.para) {
		look := looks(f.para, from, to)
		uses[look]++
		f.add(f.part(look, from, to), from)
		from = to
	}
	for look := range f.parts {
		if uses[look] == 0 {
			delete(f.parts, look)
		}
	}
	f.spots = place.Make(f.para, f.lines, f.way.Tab)
}

// looks is all of a part that its lines hang on, by a way: of each cluster its kind and its cells, and what may be done behind it. (What may be done ahead of the part says nothing: no hyphen ends a part.) Parts of other bytes may look alike, and parts of the same bytes may not.
func looks(p api.Para, from, to int) string {
	var l []byte
	for at, c := range p.Clusters[from:to] {
		l = append(l, byte(c.Kind), byte(c.Cells), byte(p.Opps[from+at+1]))
	}
	return string(l)
}

// part is what a part of some looks is laid out as; what is kept isn't broken anew.
func (f *Flow) part(look string, from, to int) laid {
	if part, ok := f.parts[look]; ok {
		return part
	}
	l, loose := lines.Part(f.para, from, to, f.way)
	part := laid{moved(l, -from), loose}
	f.parts[look] = part
	return part
}

// add puts a part that begins at a boundary behind those that were put there.
func (f *Flow) add(part laid, from int) {
	f.lines = append(f.lines, moved(part.lines, from)...)
	f.loose = f.loose || part.loose
}

// moved is lines so many clusters further on.
func moved(l []api.Line, by int) []api.Line {
	out := make([]api.Line, len(l))
	for i, line := range l {
		line.From, line.To = line.From+by, line.To+by
		out[i] = line
	}
	return out
}
