package book_test

import (
	"regexp"
	"slices"
	"strings"
	"testing"
	"unicode/utf8"

	"stanza/api"
	"stanza/hyph"
	"stanza/pats"
	"stanza/prop"
	"stanza/rules"
	"stanza/seg"
)

// The slow book of this file makes texts of clusters from their bytes on, by the document's words. Of the layers below it asks those alone that read what is written, rules and patterns: ranges are gone through one by one, rules are regular expressions, and each pattern is held against each place of a word.

type slow struct {
	api.Data
	marks, breaks slowRules
	patterns      api.Patterns
}

// slowRules is rules, and for each of them what a row ahead of a boundary and one behind it must match. A class is a letter from A on.
type slowRules struct {
	api.Rules
	lefts, rights []*regexp.Regexp
}

// written writes an expression as a regular one.
func written(e api.Expr) string {
	var kids []string
	for _, k := range e.Kids {
		kids = append(kids, written(k))
	}
	switch e.Op {
	case api.ESet:
		return letterOf(e.Set)
	case api.ESeq:
		return strings.Join(kids, "")
	case api.EAlt:
		return "(?:" + strings.Join(kids, "|") + ")"
	case api.EStar:
		return "(?:" + kids[0] + ")*"
	case api.EPlus:
		return "(?:" + kids[0] + ")+"
	case api.EOpt:
		return "(?:" + kids[0] + ")?"
	}
	return "(?:)"
}

// letterOf writes some classes; of none what no letter matches.
func letterOf(set uint32) string {
	letters := "0"
	for c := range api.MaxClasses {
		if set>>c&1 == 1 {
			letters += string(rune('A' + c))
		}
	}
	return "[" + letters + "]"
}

func slowRulesOf(text string) slowRules {
	r, _ := rules.Parse(text)
	s := slowRules{Rules: r}
	for _, rule := range r.List {
		s.lefts = append(s.lefts, regexp.MustCompile("(?:"+written(rule.Left)+")$"))
		s.rights = append(s.rights, regexp.MustCompile("^(?:"+written(rule.Right)+")"))
	}
	return s
}

// does tells what the first rule does that matches.
func (s slowRules) does(ahead, behind string) api.Opp {
	for i, rule := range s.List {
		if s.lefts[i].MatchString(ahead) && s.rights[i].MatchString(behind) {
			return rule.Does
		}
	}
	return api.May
}

// between tells what the rules do at each boundary of signs.
func (s slowRules) between(l []api.Scalar, ranges []api.Range) []api.Opp {
	opps := make([]api.Opp, len(l)+1)
	opps[len(l)] = api.Must
	var row []byte
	var places []int
	last := 0
	for i, sign := range l {
		class := slowTo(ranges, sign.R)
		if i > 0 && s.Join>>class&1 == 1 && s.After>>last&1 == 1 {
			continue
		}
		last = class
		row, places = append(row, 'A'+byte(s.Treat[class])), append(places, i)
	}
	for k, at := range places {
		if k > 0 {
			opps[at] = s.does(string(row[:k]), string(row[k:]))
		}
	}
	return opps
}

func slowTo(l []api.Range, r int32) int {
	for _, g := range l {
		if g.Lo <= r && r <= g.Hi {
			return g.To
		}
	}
	return 0
}

// slowSigns reads bytes as signs. What is no right sign has as many bytes as the longest beginning of one.
func slowSigns(b []byte) []api.Scalar {
	var l []api.Scalar
	for at := 0; at < len(b); {
		r, n := utf8.DecodeRune(b[at:])
		if r == utf8.RuneError && n == 1 {
			for at+n < len(b) && !utf8.FullRune(b[at:at+n+1]) {
				n++
			}
			r = api.Bad
		}
		l = append(l, api.Scalar{R: r, At: at, Len: n})
		at += n
	}
	return l
}

// slowLetter tells a sign as a letter; -1, if it is none.
func (s slow) slowLetter(r int32) int32 {
	for _, g := range s.Letters {
		if g.Lo <= r && r <= g.Hi {
			return int32(g.To) + r - g.Lo
		}
	}
	return -1
}

// isPoint tells whether a word may be cut behind so many of its letters.
func (s slow) isPoint(word []int32, ahead int) bool {
	if ahead < s.Left || len(word)-ahead < s.Right {
		return false
	}
	for _, w := range s.patterns.Words {
		if slices.Equal(w.Letters, word) {
			return w.Values[ahead] == 1
		}
	}
	row := slices.Concat([]int32{'.'}, word, []int32{'.'})
	value := uint8(0)
	for _, p := range s.patterns.List {
		for i := 0; i+len(p.Letters) <= len(row); i++ {
			if at := ahead + 1 - i; at >= 0 && at <= len(p.Letters) && slices.Equal(p.Letters, row[i:i+len(p.Letters)]) {
				value = max(value, p.Values[at])
			}
		}
	}
	return value%2 == 1
}

// points tells the boundaries of signs at which a word may be cut.
func (s slow) points(l []api.Scalar) []bool {
	points := make([]bool, len(l)+1)
	var word []int32
	for i := range len(l) + 1 {
		if i < len(l) && s.slowLetter(l[i].R) >= 0 {
			word = append(word, s.slowLetter(l[i].R))
			continue
		}
		for ahead := 1; ahead < len(word); ahead++ {
			points[i-len(word)+ahead] = s.isPoint(word, ahead)
		}
		word = nil
	}
	return points
}

// kind is that of a cluster which is one sign.
func kind(r int32) api.Kind {
	switch r {
	case 32:
		return api.Space
	case 9:
		return api.Tab
	}
	return api.Plain
}

// para makes a text of clusters, each sign put to the last one or begun with a new one.
func (s slow) para(text []byte) api.Para {
	l := slowSigns(text)
	marks, breaks, points := s.marks.between(l, s.Marks), s.breaks.between(l, s.Breaks), s.points(l)
	var p api.Para
	for i, sign := range l {
		cells := slowTo(s.Cells, sign.R)
		if i > 0 && marks[i] == api.Keep {
			last := &p.Clusters[len(p.Clusters)-1]
			last.Len, last.Cells, last.Kind = last.Len+sign.Len, max(last.Cells, cells), api.Plain
			continue
		}
		opp := breaks[i]
		if opp == api.Keep && points[i] {
			opp = api.Hyphen
		}
		p.Clusters = append(p.Clusters, api.Cluster{At: sign.At, Len: sign.Len, Cells: cells, Kind: kind(sign.R)})
		p.Opps = append(p.Opps, opp)
	}
	p.Opps = append(p.Opps, api.Must)
	return p
}

// slowNew makes a slow book, or tells the fault: the parts are asked from the last one on, so that the first one has the last word.
func slowNew(d api.Data) (slow, api.Fault) {
	marks, marksFault := seg.Read(d.MarkRules)
	breaks, breaksFault := seg.Read(d.BreakRules)
	_, f := hyph.New(d.Patterns, d.Letters, d.Left, d.Right)
	if !prop.Check(d.Cells, 3) || !prop.Check(d.Breaks, breaks.Classes()) || !prop.Check(d.Marks, marks.Classes()) {
		f = api.Fault{Code: api.ErrTable}
	}
	if breaksFault.Code != api.OK {
		f = breaksFault
	}
	if marksFault.Code != api.OK {
		f = marksFault
	}
	if f.Code != api.OK {
		return slow{}, f
	}
	p, _ := pats.Parse(d.Patterns)
	return slow{Data: d, marks: slowRulesOf(d.MarkRules), breaks: slowRulesOf(d.BreakRules), patterns: p}, f
}

// madeSlow is a slow book of what is right.
func madeSlow(t *testing.T, d api.Data) slow {
	t.Helper()
	s, f := slowNew(d)
	if f != (api.Fault{}) {
		t.Fatalf("P20.1: fault %v", f)
	}
	return s
}
