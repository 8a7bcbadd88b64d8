package funtext_test

import (
	"slices"
	"strings"
	"testing"

	"backstep/api"
	"backstep/ast"
	"backstep/fun"
	"backstep/funtext"
	"backstep/lexer"
)

const text = `proc len(stack xs) int { if !xs { 0 } else { 1 + len(pop(xs)) } }
proc f(int x, stack l) stack { push(x, l) }
proc h() int { local y = top(push(1, [])) { y * (y - 2) - 3 } }
proc k(int a, int b, int c) int { (a || b) && c == (a != b) | a ^ b & c }
proc m(int a, stack l) int { a - (a - a) / 7 % 2 + k(a, len(f(a, l)), if a { local b = a { b } } else { h() }) }
proc n(stack l) int { !l + !pop(l) * !if !l { l } else { pop(l) } }
`

func same(a, b api.Func) bool {
	return a.Name == b.Name && a.List == b.List && slices.Equal(a.Params, b.Params) && ast.Equal(a.Body, b.Body)
}

func TestParseAndPrint(t *testing.T) {
	lib, pos, e := funtext.Parse(text)
	if pos != 0 || e != api.OK || len(lib) != 6 {
		t.Fatal(pos, e)
	}
	if s, e := funtext.Print(lib); s != text || e != api.OK {
		t.Error(s, e)
	}
	v := func(s string) api.Node { return api.Node{Kind: api.FVar, Name: s} }
	xs := v("xs")
	length := api.Func{Name: "len", Params: []api.Param{{Name: "xs", List: true}}, Body: api.Node{Kind: api.FIf, Kids: []api.Node{
		{Kind: api.FNull, Kids: []api.Node{xs}}, {Kind: api.FNum},
		{Kind: api.FOp, Num: int(api.Add), Kids: []api.Node{{Kind: api.FNum, Num: 1}, {Kind: api.FCall, Name: "len", Kids: []api.Node{{Kind: api.FTail, Kids: []api.Node{xs}}}}}},
	}}}
	cons := api.Func{Name: "f", Params: []api.Param{{Name: "x"}, {Name: "l", List: true}}, List: true, Body: api.Node{Kind: api.FCons, Kids: []api.Node{v("x"), v("l")}}}
	let := api.Func{Name: "h", Body: api.Node{Kind: api.FLet, Name: "y", Kids: []api.Node{
		{Kind: api.FHead, Kids: []api.Node{{Kind: api.FCons, Kids: []api.Node{{Kind: api.FNum, Num: 1}, {Kind: api.FNil}}}}},
		{Kind: api.FOp, Num: int(api.Sub), Kids: []api.Node{{Kind: api.FOp, Num: int(api.Mul), Kids: []api.Node{v("y"), {Kind: api.FOp, Num: int(api.Sub), Kids: []api.Node{v("y"), {Kind: api.FNum, Num: 2}}}}}, {Kind: api.FNum, Num: 3}}},
	}}}
	for i, want := range []api.Func{length, cons, let} {
		if !same(lib[i], want) {
			t.Errorf("%v, not %v", lib[i], want)
		}
	}
}

func TestSpacesCommentsParentheses(t *testing.T) {
	want, _, _ := funtext.Parse(text)
	l, _, _ := lexer.Lex(text)
	var b strings.Builder
	for _, tok := range lexer.Solid(l) {
		b.WriteString(tok.Text + " #;\n")
	}
	got, _, e := funtext.Parse(b.String())
	if e != api.OK || !slices.EqualFunc(got, want, same) {
		t.Error(e)
	}
	a, _, _ := funtext.Parse("proc f(int x) int { ((x)) + (((x * x))) }")
	c, _, _ := funtext.Parse("proc f(int x) int { x + x * x }")
	if !slices.EqualFunc(a, c, same) || len(a) != 1 {
		t.Error(a)
	}
	if lib, pos, e := funtext.Parse(" # nothing\n"); len(lib) != 0 || pos != 0 || e != api.OK {
		t.Error(lib, pos, e)
	}
	if s, e := funtext.Print(nil); s != "" || e != api.OK {
		t.Error(s, e)
	}
}

func TestBeginningsEndTooEarly(t *testing.T) {
	first := strings.SplitAfter(text, "\n")[0]
	l, _, _ := lexer.Lex(first)
	for i := range lexer.Solid(l) {
		if i == 0 {
			continue
		}
		s := ""
		for _, tok := range lexer.Solid(l)[:i] {
			s += tok.Text + " "
		}
		if lib, pos, e := funtext.Parse(s); e != api.ErrEnd || pos != len(s) || len(lib) != 0 {
			t.Errorf("%q: %d, %d", s, pos, e)
		}
		if _, pos, e := funtext.Parse(s + "; proc"); e != api.ErrForm || pos != len(s) {
			t.Errorf("%q: %d, %d", s, pos, e)
		}
	}
}

func TestErrors(t *testing.T) {
	for s, want := range map[string]struct {
		pos int
		e   api.Errno
	}{
		"int":                                                {0, api.ErrForm},
		"proc if":                                            {5, api.ErrForm},
		"proc f(x)":                                          {7, api.ErrForm},
		"proc f(int x,)":                                     {13, api.ErrForm},
		"proc f(int x y)":                                    {13, api.ErrForm},
		"proc f() {":                                         {9, api.ErrForm},
		"proc f() int { }":                                   {15, api.ErrForm},
		"proc f() int { - 1 }":                               {15, api.ErrForm},
		"proc f() int { 1 2":                                 {17, api.ErrForm},
		"proc f() int { 1 + * 2":                             {19, api.ErrForm},
		"proc f() int { [1] }":                               {16, api.ErrForm},
		"proc f() int { push(1) }":                           {21, api.ErrForm},
		"proc f() int { pop 1 }":                             {19, api.ErrForm},
		"proc f() int { top() }":                             {19, api.ErrForm},
		"proc f() int { size(x) }":                           {15, api.ErrForm},
		"proc f() int { if 1 2 }":                            {20, api.ErrForm},
		"proc f() int { if 1 { 2 } }":                        {26, api.ErrForm},
		"proc f() int { local 1 = 2 { 3 } }":                 {21, api.ErrForm},
		"proc f() int { local x 2 }":                         {23, api.ErrForm},
		"proc f() int { h(1,) }":                             {19, api.ErrForm},
		"proc f() int { 1 } 2":                               {19, api.ErrForm},
		"proc f() int { 9223372036854775808 )":               {15, api.ErrRange},
		"proc f() int { 1 ) 9223372036854775808":             {17, api.ErrForm},
		"proc f() int { 1 ? }":                               {17, api.ErrForm},
		"proc f() int { abcdefghijklmnopq }":                 {15, api.ErrForm},
		"proc f() int { 9223372036854775807 }":               {0, api.OK},
		"proc f() int { 1 } proc h() int { y }":              {19, api.ErrName},
		" proc f1() int { 1 }":                               {1, api.ErrForm},
		"proc f() int { [] }":                                {0, api.ErrType},
		"proc f() int { 1 }  proc f() int { 1 }":             {20, api.ErrTwice},
		"proc f(int x) int { local x = 1 { x } }":            {0, api.ErrTwice},
		"proc f() int { " + strings.Repeat("!", 90) + "[] }": {0, api.ErrDepth},
		strings.Repeat(" ", api.MaxText+1):                   {0, api.ErrFull},
	} {
		lib, pos, e := funtext.Parse(s)
		if pos != want.pos || e != want.e || e != api.OK && len(lib) != 0 {
			t.Errorf("%.60q: %d, %d", s, pos, e)
		}
	}
}

func TestPrintErrors(t *testing.T) {
	lib, _, _ := funtext.Parse(text)
	lib[3].Name = "len"
	_, want := fun.Valid(lib)
	if s, e := funtext.Print(lib); s != "" || e != want || e == api.OK {
		t.Error(s, e)
	}
	if s, e := funtext.Print([]api.Func{{Name: "f"}}); s != "" || e != api.ErrForm {
		t.Error(s, e)
	}
}

func TestAllPairsOfOperators(t *testing.T) {
	x := api.Node{Kind: api.FVar, Name: "x"}
	op := func(k byte, a, b api.Node) api.Node {
		return api.Node{Kind: api.FOp, Num: int(k), Kids: []api.Node{a, b}}
	}
	for a := api.Add; a <= api.Either; a++ {
		for b := api.Add; b <= api.Either; b++ {
			for _, body := range []api.Node{op(a, op(b, x, x), x), op(a, x, op(b, x, x)), op(a, x, api.Node{Kind: api.FIf, Kids: []api.Node{x, op(b, x, x), x}})} {
				lib := []api.Func{{Name: "f", Params: []api.Param{{Name: "x"}}, Body: body}}
				s, e := funtext.Print(lib)
				back, _, e2 := funtext.Parse(s)
				if e != api.OK || e2 != api.OK || !slices.EqualFunc(back, lib, same) {
					t.Fatal(s)
				}
			}
		}
	}
	inner := api.Node{Kind: api.FNull, Kids: []api.Node{{Kind: api.FIf, Kids: []api.Node{x, {Kind: api.FNil}, {Kind: api.FNil}}}}}
	lib := []api.Func{{Name: "f", Params: []api.Param{{Name: "x"}}, Body: inner}}
	if s, e := funtext.Print(lib); s != "proc f(int x) int { !if x { [] } else { [] } }\n" || e != api.OK {
		t.Error(s)
	}
}
