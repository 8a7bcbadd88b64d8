package lexer_test

import (
	"slices"
	"strings"
	"testing"

	"backstep/api"
	"backstep/lexer"
)

func TestLexExamples(t *testing.T) {
	want := []lexer.Token{
		{lexer.Word, "x1", 0}, {lexer.Space, " ", 2}, {lexer.Sign, "+=", 3}, {lexer.Space, " ", 5},
		{lexer.Number, "3", 6}, {lexer.Sign, ";", 7}, {lexer.Comment, "#c", 8},
	}
	got, pos, e := lexer.Lex("x1 += 3;#c")
	if !slices.Equal(got, want) || pos != 0 || e != api.OK {
		t.Error(got, pos, e)
	}
	if l, _, _ := lexer.Lex("a<=>b"); len(l) != 3 || l[1].Text != "<=>" {
		t.Error(l)
	}
	if l, pos, e := lexer.Lex("aB"); len(l) != 0 || pos != 1 || e != api.ErrForm {
		t.Error(l, pos, e)
	}
}

func TestLexLongestTokens(t *testing.T) {
	for s, want := range map[string]string{
		"":               "",
		"12ab3":          "12|ab3",
		"a12 b":          "a12| |b",
		" \t\r\n x":      " \t\r\n |x",
		"#a\r\n#\n##":    "#a\r|\n|#|\n|##",
		"<=>=<==":        "<=>|=|<=|=",
		"===":            "==|=",
		"&&&|||":         "&&|&|||||",
		"-=-+=+^=^!=!":   "-=|-|+=|+|^=|^|!=|!",
		":=(){}[];,*/%>": ":=|(|)|{|}|[|]|;|,|*|/|%|>",
		"<- >=":          "<|-| |>=",
		"#\x00\xff~Z":    "#\x00\xff~Z",
	} {
		l, pos, e := lexer.Lex(s)
		var texts []string
		at := 0
		for _, tok := range l {
			texts = append(texts, tok.Text)
			if tok.Pos != at {
				t.Errorf("%q: token %q at %d, not %d", s, tok.Text, tok.Pos, at)
			}
			at += len(tok.Text)
			one, _, _ := lexer.Lex(tok.Text)
			if len(one) != 1 || one[0].Kind != tok.Kind || one[0].Text != tok.Text {
				t.Errorf("%q alone: %v", tok.Text, one)
			}
		}
		if got := strings.Join(texts, "|"); got != want || pos != 0 || e != api.OK || lexer.Join(l) != s {
			t.Errorf("%q: %q, %d, %d", s, got, pos, e)
		}
	}
}

func TestLexKinds(t *testing.T) {
	for text, kind := range map[string]byte{"a9": lexer.Word, "if": lexer.Word, "09": lexer.Number, "<=>": lexer.Sign, "\t ": lexer.Space, "#": lexer.Comment} {
		l, _, _ := lexer.Lex(text)
		if len(l) != 1 || l[0].Kind != kind {
			t.Errorf("%q: %v", text, l)
		}
	}
	if lexer.Word != 1 || lexer.Comment != 5 {
		t.Error("numbers of the kinds")
	}
}

func TestLexErrors(t *testing.T) {
	for s, want := range map[string]int{"A": 0, "a:": 1, "x = .": 4, "a\x00": 1, "é": 0, "1 ~": 2, "#c\n$": 3, "a:b": 1} {
		if l, pos, e := lexer.Lex(s); len(l) != 0 || pos != want || e != api.ErrForm {
			t.Errorf("%q: %v, %d, %d", s, l, pos, e)
		}
	}
	long := strings.Repeat("a", api.MaxText)
	if l, _, e := lexer.Lex(long); len(l) != 1 || e != api.OK {
		t.Error("a text of MaxText bytes", e)
	}
	if l, pos, e := lexer.Lex("A" + long); len(l) != 0 || pos != 0 || e != api.ErrFull {
		t.Error("a text of more than MaxText bytes", pos, e)
	}
}

func TestJoinAndSolid(t *testing.T) {
	l := []lexer.Token{{lexer.Space, "x", 7}, {lexer.Word, "y", -1}, {99, "?", 0}, {lexer.Comment, "z", 0}, {lexer.Number, "1", 3}, {lexer.Sign, "+", 3}}
	if got := lexer.Join(l); got != "xy?z1+" {
		t.Error(got)
	}
	solid := lexer.Solid(l)
	if !slices.Equal(solid, []lexer.Token{l[1], l[2], l[4], l[5]}) {
		t.Error(solid)
	}
	solid[0].Text = "changed"
	if l[1].Text != "y" {
		t.Error("Solid shares memory")
	}
}

func TestNames(t *testing.T) {
	keywords := strings.Fields("int array stack proc main push pop read unread write unwrite call uncall if else fi from loop until local delocal top size")
	for _, s := range keywords {
		if !lexer.Keyword(s) || lexer.Name(s) {
			t.Errorf("keyword %q", s)
		}
		if lexer.Keyword(s+"x") || !lexer.Name(s+"1") {
			t.Errorf("no keyword %q", s)
		}
	}
	for s, want := range map[string]bool{
		"x": true, "x1": true, "abcdefghijklmnop": true, "abcdefghijklmnopq": false, "": false, "1x": false,
		"x y": false, "x+": false, "X": false, "xY": false, "é": false, " x": false, "7": false, "out": true, "ints": true, "+": false, "_": false,
	} {
		if lexer.Name(s) != want || lexer.Keyword(s) {
			t.Errorf("name %q", s)
		}
	}
}
