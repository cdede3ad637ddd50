package rules_test

import (
	"strings"
	"testing"

	"stanza/api"
	"stanza/rules"
)

// P3.1: a byte that begins nothing is a fault where the next piece is looked at, whatever is wanted there.
func TestTokens(t *testing.T) {
	for text, where := range map[string]int{
		"!": 0, " !": 1, "# !\n!": 4, "class A; !": 9, "class!": 5, "class A!": 7, "class A !;": 8,
		"set !": 4, "set S!": 5, "set S =!": 7, "class A; set S = A!": 18,
		"join!": 4, "join / !": 7, "class A; join A!": 15, "class A; join A / A!": 19,
		"treat!": 5, "class A; treat A!": 16, "class A; treat A =!": 18, "class A; treat A = A!": 20,
		"keep!": 4, "may !": 4, "must\n!": 5, "keep /!": 6, "keep / !;": 7, "keep .!": 6, "keep .*!": 7, "keep .|!": 7,
		"keep (!": 6, "keep ()!": 7, "keep [!": 6, "keep [^!": 7, "keep []!": 7, "class A; keep A!": 15, "class A; keep [A!": 16,
	} {
		bad(t, text, at(api.ErrToken, where))
	}
	begins := "()[]^|*+?.;/=_# \t\n\r"
	for c := range 256 {
		b := byte(c)
		letter := 'a' <= b && b <= 'z' || 'A' <= b && b <= 'Z' || '0' <= b && b <= '9'
		if letter || strings.IndexByte(begins, b) >= 0 {
			if _, f := rules.Parse("class A" + string([]byte{b})); f.Code == api.ErrToken {
				t.Errorf("P3.1: byte %d begins a piece, or stands between: %v", c, f)
			}
			continue
		}
		bad(t, "class A"+string([]byte{b})+";", at(api.ErrToken, 7))
		good(t, "class A #"+string([]byte{b})+"\n;")
	}
	bad(t, "class \xc3\xa9;", at(api.ErrToken, 6))
	bad(t, "class A\xc3\xa9;", at(api.ErrToken, 7))
}

// P3.1: a piece that isn't right, at its place.
func TestWrongPieces(t *testing.T) {
	for _, sign := range strings.Split("( ) [ ] ^ | * + ? . ; / =", " ") {
		bad(t, sign, at(api.ErrParse, 0))
		bad(t, "class A; "+sign, at(api.ErrParse, 9))
		if sign != ";" {
			bad(t, "class A "+sign, at(api.ErrParse, 8))
			bad(t, "set S = "+sign, at(api.ErrParse, 8))
			bad(t, "join / "+sign, at(api.ErrParse, 7))
			bad(t, "class A; treat A = A "+sign, at(api.ErrParse, 21))
		}
		bad(t, "set "+sign, at(api.ErrParse, 4))
		bad(t, "treat "+sign, at(api.ErrParse, 6))
		bad(t, "class A; treat A = "+sign, at(api.ErrParse, 19))
		if sign != "=" {
			bad(t, "set S "+sign, at(api.ErrParse, 6))
			bad(t, "class A; treat A "+sign, at(api.ErrParse, 17))
		}
		if sign != "/" {
			bad(t, "join "+sign, at(api.ErrParse, 5))
		}
		if sign != "]" {
			bad(t, "class A; keep [^A "+sign, at(api.ErrParse, 18))
			bad(t, "class A; keep [A "+sign, at(api.ErrParse, 17))
		}
		if sign != "]" && sign != "^" {
			bad(t, "keep [ "+sign, at(api.ErrParse, 7))
		}
		if strings.Contains("([.|/", sign) {
			continue
		}
		bad(t, "keep "+sign, at(api.ErrParse, 5))
		bad(t, "keep .* "+sign, at(api.ErrParse, 8))
		bad(t, "keep | "+sign, at(api.ErrParse, 7))
		if sign != ";" {
			bad(t, "keep / "+sign, at(api.ErrParse, 7))
		}
		if sign != ")" {
			bad(t, "keep ( "+sign, at(api.ErrParse, 7))
		}
	}
	for text, where := range map[string]int{
		"what": 0, " what": 1, "what A;": 0, "class A; what;": 9, "class A;;": 8, "keep / ; /": 9,
		"set S T = ;": 6, "class A; treat A A = A;": 17, "class A; treat A = A A;": 21,
		"keep / /;": 7, "keep (/);": 6, "keep / (;": 8, "keep .**/;": 7, "keep .*+/;": 7, "keep .?*/;": 7, "keep (.+)?+/;": 10,
		"keep (.;": 7, "keep .)/;": 6, "keep []]/;": 7, "keep [[]]/;": 6, "keep [.]/;": 6, "keep [^^]/;": 7, "keep [^": 7, "keep ^/;": 5, "keep .;": 6, "keep = /;": 5,
		"join / / ;": 7, "join . / ;": 5,
	} {
		bad(t, text, at(api.ErrParse, where))
	}
}

// P3.1: a line whose end isn't there: at the text's end, behind all blanks and remarks.
func TestTextsEnd(t *testing.T) {
	pieces := strings.Fields("class A B ; set S = A B ; join A / S ; treat A = B ; keep A * [ ^ A S ] + | ( . ? ) / ( | S ) ; must / ; may B / A | ;")
	for i := range pieces {
		text := strings.Join(pieces[:i], " ")
		for _, behind := range []string{"", " ", "\n\t\r", " #", " # ;", " # ;\n"} {
			if i == 0 || pieces[i-1] == ";" {
				good(t, text+behind)
			} else {
				bad(t, text+behind, at(api.ErrParse, len(text+behind)))
			}
		}
	}
}

func TestTwice(t *testing.T) {
	for text, where := range map[string]int{
		"class A A;": 8, "class A B A;": 10, "class A; class A;": 15, "class A; class B A": 17,
		"class A; set A = ;": 13, "class A; set A ;": 13, "class A; set A": 13, "class A; set A!": 13, "class A A!": 8, "class A A": 8,
		"set S = ; set S = ;": 14, "set S = ; class S;": 16, "set S = ; class A S": 18,
	} {
		bad(t, text, at(api.ErrTwice, where))
	}
}

func TestNames(t *testing.T) {
	for text, where := range map[string]int{
		"set S = A;": 8, "set S = S;": 8, "class A; set S = A B;": 19, "set S = A": 8, "set S = A!": 8, "set S = T; set T = ;": 8,
		"join A / ;": 5, "join / A;": 7, "join A !": 5, "class A; join A B / ;": 16, "class A; join A / B": 18, "join A; class A;": 5,
		"treat A = B;": 6, "treat A": 6, "treat A !": 6, "treat A A": 6, "class A; treat A = B;": 19, "class A; treat A = B!": 19, "class A; treat B = A;": 15,
		"class A; set S = A; treat S = A;": 26, "class A; set S = A; treat S": 26, "class A; set S = A; treat A = S;": 30, "class A; set S = A; treat A = S": 30,
		"keep A / A;": 5, "keep A": 5, "keep A!": 5, "keep A**": 5, "keep / A;": 7, "keep [A]/;": 6, "keep [^A]/;": 7, "keep [A!": 6, "keep (A)/;": 6, "keep .|A": 7,
		"class A; keep a/;": 14, "class A; keep AA/;": 14, "class A; keep A [A B]/;": 19, "keep A/; class A;": 5, "class A; keep A A1/;": 16,
	} {
		bad(t, text, at(api.ErrName, where))
	}
}

func TestSource(t *testing.T) {
	word := "class A; keep A / A;"
	full := word + strings.Repeat(" ", api.MaxSource-len(word))
	if r := good(t, full); len(r.List) != 1 {
		t.Errorf("P3.1: a text of %d bytes: %v", len(full), r)
	}
	good(t, word+"#"+strings.Repeat("x", api.MaxSource-len(word)-1))
	bad(t, full+" ", at(api.ErrMany, api.MaxSource))
	bad(t, full+full, at(api.ErrMany, api.MaxSource))
	bad(t, "!"+full, at(api.ErrMany, api.MaxSource))
	bad(t, strings.Repeat("!", api.MaxSource), at(api.ErrToken, 0))
	long := "class " + strings.Repeat("n", api.MaxSource-7) + ";"
	if r := good(t, long); len(r.Classes) != 1 || r.Classes[0] != long[6:len(long)-1] {
		t.Errorf("P3.1: a name of %d bytes", len(long)-7)
	}
	bad(t, full[:api.MaxSource-1]+"!", at(api.ErrToken, api.MaxSource-1))
	bad(t, long[:len(long)-1]+" ", at(api.ErrParse, api.MaxSource))
}

func TestManyClasses(t *testing.T) {
	most := "class " + many("c", " ", api.MaxClasses)
	r := good(t, most+"; join c23 / c0; keep . / [^c0 c23];")
	if len(r.Classes) != 24 || len(r.Treat) != 24 || r.Treat[23] != 23 || r.Join != 1<<23 || r.After != 1 {
		t.Errorf("P3.1: 24 classes: %v", r)
	}
	if r.List[0].Left.Set != 1<<24-1 || r.List[0].Right.Set != 1<<23-2 {
		t.Errorf("P3.2: 24 classes: %v", r.List)
	}
	bad(t, most+"x;", at(api.ErrMany, len(most)))
	bad(t, most+"x", at(api.ErrMany, len(most)))
	bad(t, most+"x!", at(api.ErrMany, len(most)))
	bad(t, most+"; class x;", at(api.ErrMany, len(most)+8))
	bad(t, most+"c23 x;", at(api.ErrTwice, len(most)))
	bad(t, most+"; set S = c0; class S;", at(api.ErrTwice, len(most)+20))
	bad(t, most+"; class S; !", at(api.ErrMany, len(most)+8))
	bad(t, most+"!x;", at(api.ErrToken, len(most)))
	if r := good(t, most+";"+many("set s", "=c0;", 100)+"class ;"); len(r.Classes) != 24 {
		t.Errorf("P3.1: sets are no classes: %v", r)
	}
}

func TestManyRules(t *testing.T) {
	most := "class A; " + strings.Repeat("keep/;may/;must/;", 8)
	if r := good(t, most+"join A/A; treat A=A; class B; set S=A;"); len(r.List) != 24 || r.List[22].Does != api.May || r.List[23].Does != api.Must {
		t.Errorf("P3.1: 24 rules: %v", r)
	}
	for _, word := range []string{"keep", "may", "must"} {
		for _, behind := range []string{"/;", "", "!", " X", " ((((((((((((((((("} {
			bad(t, most+" "+word+behind, at(api.ErrMany, len(most)+1))
		}
	}
	bad(t, most+"what", at(api.ErrParse, len(most)))
	bad(t, most+"keeps/;", at(api.ErrParse, len(most)))
}

func TestDeep(t *testing.T) {
	open, shut := strings.Repeat("(", api.MaxDepth), strings.Repeat(")", api.MaxDepth)
	head := "class A; keep "
	r := good(t, head+open+"A"+shut+open+"[A]."+shut+"/"+open+shut+";")
	if len(r.List) != 1 || !sameExpr(r.List[0].Left, seq(set(1), seq(set(1), set(1)))) || !sameExpr(r.List[0].Right, none()) {
		t.Errorf("P3.2: 16 brackets open: %v", r)
	}
	good(t, head+strings.Repeat("()", 300)+"/(());")
	bad(t, head+open+"(A)"+shut+"/;", at(api.ErrDeep, len(head)+16))
	bad(t, head+open+"(", at(api.ErrDeep, len(head)+16))
	bad(t, head+open+"(!", at(api.ErrDeep, len(head)+16))
	bad(t, head+open+"((B", at(api.ErrDeep, len(head)+16))
	bad(t, head+open+")((", at(api.ErrDeep, len(head)+18))
	bad(t, head+open+"A|A*(", at(api.ErrDeep, len(head)+20))
	bad(t, head+"/"+open+" (", at(api.ErrDeep, len(head)+18))
	bad(t, head+open+"B(", at(api.ErrName, len(head)+16))
	bad(t, head+open+"[(", at(api.ErrParse, len(head)+17))
	bad(t, head+open+"/", at(api.ErrParse, len(head)+16))
}

func TestPlaces(t *testing.T) {
	head := "class A; keep "
	most := head + strings.Repeat("A . [A A A] ([^])", 25) + "/" + strings.Repeat("A*|(.)+|[]?|A ", 25)
	if r := good(t, most+";"); len(r.List[0].Left.Kids) != 100 || len(r.List[0].Right.Kids) != 76 {
		t.Errorf("P3.1: 200 places: %v", r)
	}
	good(t, most+"();may()|/();")
	for _, thing := range []string{"A", ".", "[A]", "[", "[!", "B", "B!", "A!"} {
		bad(t, most+"|"+thing, at(api.ErrPlaces, len(most)+1))
		bad(t, most+"(  "+thing, at(api.ErrPlaces, len(most)+3))
		// Things are counted through the whole text, not rule by rule.
		bad(t, most+";class C; may () "+thing, at(api.ErrPlaces, len(most)+17))
		bad(t, most+"; may /"+thing, at(api.ErrPlaces, len(most)+7))
	}
	bad(t, most+"|!", at(api.ErrToken, len(most)+1))
	bad(t, most+"|]", at(api.ErrParse, len(most)+1))
	bad(t, most+";keep / (((((((((((((((((", at(api.ErrDeep, len(most)+24))
	// Names of other lines, and names within [ ], are no things.
	if r := good(t, head+"["+strings.Repeat("A ", 300)+"]/;join "+strings.Repeat("A ", 300)+"/;set S="+strings.Repeat("A ", 300)+";"); r.Join != 1 {
		t.Errorf("P3.1: names that are no things: %v", r)
	}
}

// P3.1: of a text that has several faults, the first one.
func TestFirstFault(t *testing.T) {
	for text, want := range map[string]api.Fault{
		"class A A; !":             at(api.ErrTwice, 8),
		"class A; ! class A;":      at(api.ErrToken, 9),
		"keep A / ! ; what":        at(api.ErrName, 5),
		"keep / ; what A; keep A/": at(api.ErrParse, 9),
		"class A; what; class A;":  at(api.ErrParse, 9),
		"set S = A B; set S = ;":   at(api.ErrName, 8),
		"class A; set A = B;":      at(api.ErrTwice, 13),
		"class A; treat B = C;":    at(api.ErrName, 15),
		"class A; treat A A = B":   at(api.ErrParse, 17),
		"class A; keep A ) B/;":    at(api.ErrParse, 16),
		"class A; keep A B )/;":    at(api.ErrName, 16),
		"join A B / C;":            at(api.ErrName, 5),
	} {
		bad(t, text, want)
	}
}
