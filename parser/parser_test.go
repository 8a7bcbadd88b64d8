package parser_test

import (
	"strings"
	"testing"

	"backstep/api"
	"backstep/ast"
	"backstep/lexer"
	"backstep/parser"
)

func num(n int) api.Node                     { return api.Node{Kind: api.Num, Num: n} }
func name(s string) api.Node                 { return api.Node{Kind: api.Var, Name: s} }
func node(k byte, kids ...api.Node) api.Node { return api.Node{Kind: k, Kids: kids} }
func with(k byte, s string, kids ...api.Node) api.Node {
	return api.Node{Kind: k, Name: s, Kids: kids}
}

func TestExpr(t *testing.T) {
	x, y, z := name("x"), name("y"), name("z")
	for s, want := range map[string]api.Node{
		"1 - 2 - 3 * x":       node(api.Sub, node(api.Sub, num(1), num(2)), node(api.Mul, num(3), x)),
		"x":                   x,
		"007":                 num(7),
		"9223372036854775807": num(1<<63 - 1),
		"a[x+1]":              with(api.Item, "a", node(api.Add, x, num(1))),
		"top(s)+size(s)":      node(api.Add, with(api.Top, "s"), with(api.Size, "s")),
		"--!x":                node(api.Neg, node(api.Neg, node(api.Not, x))),
		"-x*y":                node(api.Mul, node(api.Neg, x), y),
		"(((x)))":             x,
		"x-(y-z)":             node(api.Sub, x, node(api.Sub, y, z)),
		"x||y&&z":             node(api.Either, x, node(api.Both, y, z)),
		"x&&y||z":             node(api.Either, node(api.Both, x, y), z),
		"x|y^z":               node(api.Or, x, node(api.Xor, y, z)),
		"x^y&z":               node(api.Xor, x, node(api.And, y, z)),
		"x&y==z":              node(api.And, x, node(api.Eq, y, z)),
		"x==y!=z":             node(api.Ne, node(api.Eq, x, y), z),
		"x<y<=z":              node(api.Le, node(api.Lt, x, y), z),
		"x>y+z":               node(api.Gt, x, node(api.Add, y, z)),
		"x>=y":                node(api.Ge, x, y),
		"x/y%z":               node(api.Mod, node(api.Div, x, y), z),
		" #c\n x # d":         x,
		"x - -5":              node(api.Sub, x, node(api.Neg, num(5))),
	} {
		n, pos, e := parser.Expr(s)
		if !ast.Equal(n, want) || pos != 0 || e != api.OK {
			t.Errorf("%q: %v, %d, %d", s, n, pos, e)
		}
	}
}

func TestBlock(t *testing.T) {
	x := name("x")
	item := with(api.Item, "a", num(1))
	one := node(api.Block, node(api.Plus, x, num(1)))
	for s, want := range map[string]api.Node{
		"":                                node(api.Block),
		"x+=1;":                           one,
		"x-=1;x^=1;":                      node(api.Block, node(api.Minus, x, num(1)), node(api.Flip, x, num(1))),
		"a[1]:=x;":                        node(api.Block, node(api.Set, item, x)),
		"x<=>a[1];":                       node(api.Block, node(api.Swap, x, item)),
		"push a[1],s;":                    node(api.Block, with(api.Push, "s", item)),
		"pop x,s;":                        node(api.Block, with(api.Pop, "s", x)),
		"read x;unread x;":                node(api.Block, node(api.Read, x), node(api.Unread, x)),
		"write x;unwrite x;":              node(api.Block, node(api.Write, x), node(api.Unwrite, x)),
		"call f();":                       node(api.Block, with(api.Call, "f")),
		"uncall f(x,y);":                  node(api.Block, with(api.Uncall, "f", x, name("y"))),
		"if x {x+=1;} else {} fi 1;":      node(api.Block, node(api.If, x, one, node(api.Block), num(1))),
		"from 1 {} loop {x+=1;} until x;": node(api.Block, node(api.From, num(1), node(api.Block), one, x)),
		"local y=1 {x+=1;} delocal x;":    node(api.Block, with(api.Local, "y", num(1), one, x)),
		"local stack s {x+=1;};":          node(api.Block, with(api.LocalStack, "s", one)),
		"call f(a,b,c,d,e,f,g,h);":        node(api.Block, with(api.Call, "f", name("a"), name("b"), name("c"), name("d"), name("e"), name("f"), name("g"), name("h"))),
	} {
		n, pos, e := parser.Block(s)
		if !ast.Equal(n, want) || pos != 0 || e != api.OK {
			t.Errorf("%q: %v, %d, %d", s, n, pos, e)
		}
	}
}

const sample = `int x array a[16] stack s # globals
proc f(int y, array b[1], stack t) { y += b[0]; }
proc g() { }
main {
	if x > 0 { x += 1; } else { push x, s; } fi !x;
	from x == 0 { read a[x + 1]; } loop { x <=> a[0]; } until top(s) == size(s);
	local k = x { call f(k, a, s); } delocal k;
	local stack u { pop x, u; };
}`

func TestProgram(t *testing.T) {
	p, pos, e := parser.Program(sample)
	if pos != 0 || e != api.OK || !ast.Valid(p) {
		t.Fatal(pos, e)
	}
	vars := []api.VarDecl{{Name: "x", Kind: api.Int}, {Name: "a", Kind: api.Array, Len: 16}, {Name: "s", Kind: api.Stack}}
	params := []api.VarDecl{{Name: "y", Kind: api.Int}, {Name: "b", Kind: api.Array, Len: 1}, {Name: "t", Kind: api.Stack}}
	body := node(api.Block, node(api.Plus, name("y"), with(api.Item, "b", num(0))))
	want := api.Program{Vars: vars, Procs: []api.Proc{{Name: "f", Params: params, Body: body}, {Name: "g", Body: node(api.Block)}}, Main: p.Main}
	if !ast.Same(p, want) || len(p.Main.Kids) != 4 {
		t.Error(p)
	}
	if p, _, _ := parser.Program("main { x += 1; }"); len(p.Main.Kids) != 1 || p.Main.Kids[0].Kind != api.Plus {
		t.Error("main alone", p)
	}
}

func TestSpacesAndComments(t *testing.T) {
	p, _, _ := parser.Program(sample)
	l, _, _ := lexer.Lex(sample)
	var spaced, dense strings.Builder
	for _, tok := range lexer.Solid(l) {
		spaced.WriteString("#}\n\t" + tok.Text)
		dense.WriteString(tok.Text + " ")
	}
	for _, s := range []string{spaced.String(), dense.String()} {
		if q, pos, e := parser.Program(s); e != api.OK || !ast.Same(p, q) {
			t.Error(pos, e)
		}
	}
}

func TestBeginningsEndTooEarly(t *testing.T) {
	l, _, _ := lexer.Lex(sample)
	l = lexer.Solid(l)
	for i := range l {
		s := lexer.Join(nil)
		for _, tok := range l[:i] {
			s += tok.Text + " "
		}
		if _, pos, e := parser.Program(s); e != api.ErrEnd || pos != len(s) {
			t.Errorf("%d tokens: %d, %d", i, pos, e)
		}
		if _, pos, e := parser.Program(s + "$ int"); e != api.ErrForm || pos != len(s) {
			t.Errorf("%d tokens and a byte that starts no token: %d, %d", i, pos, e)
		}
	}
}

func TestFormErrors(t *testing.T) {
	for s, want := range map[string]int{
		"main { x += 1 }": 14, "main { } x": 9, "main { } ;": 9, "x": 0, "int int main {}": 4, "int x; main {}": 5,
		"array a 3": 8, "array a[x]": 8, "array a[3;": 9, "proc f {}": 7, "proc f(x)": 7, "proc f(int x int y)": 13,
		"proc f(int x,)": 13, "proc main()": 5, "int x proc f() {} int y": 18, "main { 1 += x; }": 7, "main { x = 1; }": 9,
		"main { x + = 1; }": 9, "main { push x s; }": 14, "main { push 1, s; }": 12, "main { push x, 1; }": 15,
		"main { call f(1); }": 14, "main { call f(a[1]); }": 15, "main { call f(x,); }": 16, "main { call f x; }": 14,
		"main { if x { } fi x; }": 16, "main { if x { } else { } x; }": 25, "main { from x { } until x; }": 18,
		"main { from x { } loop { } fi x; }": 27, "main { local x { } delocal 1; }": 15, "main { local x = 1 { }; }": 22,
		"main { local stack s; }": 20, "main { x <=> 1; }": 13, "main { x += top s; }": 16, "main { x += size(1); }": 17,
		"main { x += ; }": 12, "main { x += 1 2; }": 14, "main { x += (1; }": 14, "main { x += a[1; }": 15, "main { read 1; }": 12,
		"main { abcdefghijklmnopq += 1; }": 7, "main x": 5, "main { ; }": 7, "main { x += 1 <=> 2; }": 14, "main { else }": 7,
	} {
		for _, rest := range []string{"", " }", " int x ( 99999999999999999999", ";;"} {
			p, pos, e := parser.Program(s + rest)
			if e != api.ErrForm || pos != want || !ast.Same(p, api.Program{}) {
				t.Errorf("%q: %d, %d", s+rest, pos, e)
			}
		}
	}
	for s, want := range map[string]int{"1 2": 2, "x y": 2, "+": 0, "1 + * 2": 4, "(1 2)": 3, "if": 0, "1 )": 2, "()": 1} {
		if n, pos, e := parser.Expr(s); e != api.ErrForm || pos != want || n.Kind != 0 {
			t.Errorf("%q: %d, %d", s, pos, e)
		}
	}
	for s, want := range map[string]int{"x += 1; }": 8, "x += 1 y": 7, "{}": 0, "x += 1;;": 7} {
		if n, pos, e := parser.Block(s); e != api.ErrForm || pos != want || n.Kind != 0 {
			t.Errorf("%q: %d, %d", s, pos, e)
		}
	}
}

func TestEndErrors(t *testing.T) {
	for _, s := range []string{"", "1 +", "-", "(1 ", "a[1", "top", "top(", "top(s", "1 + # c\n"} {
		if _, pos, e := parser.Expr(s); e != api.ErrEnd || pos != len(s) {
			t.Errorf("%q: %d, %d", s, pos, e)
		}
	}
	for _, s := range []string{"x", "x +=", "x += 1", "x += 1 ", "if x {", "call f(x, "} {
		if _, pos, e := parser.Block(s); e != api.ErrEnd || pos != len(s) {
			t.Errorf("%q: %d, %d", s, pos, e)
		}
	}
}

func TestRangeErrors(t *testing.T) {
	for s, want := range map[string]int{"array a[0]": 8, "array a[17] ;": 8, "array a[ 99999999999999999999 ( (": 9, "main { x += 9223372036854775808 x": 12} {
		if _, pos, e := parser.Program(s); e != api.ErrRange || pos != want {
			t.Errorf("%q: %d, %d", s, pos, e)
		}
	}
	if _, pos, e := parser.Program("array a[17] $"); e != api.ErrForm || pos != 12 {
		t.Error("errors of the lexer come first", pos, e)
	}
	if n, _, e := parser.Expr(strings.Repeat("0", 100) + "5"); n.Num != 5 || e != api.OK {
		t.Error("leading zeros", n, e)
	}
}

func TestFullErrors(t *testing.T) {
	vars := strings.Repeat("int x ", api.MaxVars)
	procs := strings.Repeat("proc f() {} ", api.MaxProcs)
	params := strings.Repeat("int x, ", api.MaxParams)
	args := strings.Repeat("x, ", api.MaxParams)
	if _, _, e := parser.Program(vars + procs + "main {}"); e != api.OK {
		t.Error("the greatest numbers", e)
	}
	for _, c := range []struct {
		before, rest string
		want         api.Errno
	}{
		{vars, "int", api.ErrFull}, {vars, "stack 1", api.ErrFull}, {vars, "array )", api.ErrFull}, {vars, "x", api.ErrForm}, {vars, "", api.ErrEnd},
		{procs, "proc", api.ErrFull}, {procs, "proc 1", api.ErrFull}, {procs, "int", api.ErrForm},
		{"proc f(" + params, "int", api.ErrFull}, {"proc f(" + params, "stack )", api.ErrFull}, {"proc f(" + params, "x", api.ErrForm}, {"proc f(" + params, "", api.ErrEnd},
		{"main { call f(" + args, "x", api.ErrFull}, {"main { call f(" + args, "y 1", api.ErrFull}, {"main { uncall f(" + args, "1", api.ErrForm}, {"main { call f(" + args, "if", api.ErrForm},
	} {
		p, pos, e := parser.Program(c.before + c.rest)
		if e != c.want || pos != len(c.before) || !ast.Same(p, api.Program{}) {
			t.Errorf("%q: %d, %d", c.before+c.rest, pos, e)
		}
	}
	if _, pos, e := parser.Block("call f(" + args + "x"); e != api.ErrFull || pos != 7+len(args) {
		t.Error(pos, e)
	}
}

func TestSizeLimits(t *testing.T) {
	deep := func(d int) string { return strings.Repeat("-", d-1) + "x" }
	tall := strings.Repeat("x += 1; ", 667)
	for _, c := range []struct {
		s    string
		pos  int
		want api.Errno
	}{
		{"main { x += " + deep(78) + "; }", 0, api.OK},
		{"main { x += " + deep(79) + "; }", 5, api.ErrDepth},
		{"main { x += " + deep(79) + "; } x", 5, api.ErrDepth},
		{"main { x += " + deep(79) + "; ", 93, api.ErrEnd},
		{"proc f() { x += " + deep(79) + "; } $", 99, api.ErrForm},
		{"proc f() { x += " + deep(79) + "; } int", 9, api.ErrDepth},
		{"main {" + tall[:666*8] + " }", 0, api.OK},
		{"main {" + tall[:665*8] + "read x; read x; }", 0, api.OK},
		{"main {" + tall[:666*8] + "call f(); }", 0, api.OK},
		{"main {" + tall[:666*8] + "read x; }", 5, api.ErrFull},
		{"main {" + tall + " }", 5, api.ErrFull},
		{"main {" + tall + "x += " + deep(79) + "; }", 5, api.ErrDepth},
	} {
		if _, pos, e := parser.Program(c.s); e != c.want || pos != c.pos {
			t.Errorf("%.40q: %d, %d", c.s, pos, e)
		}
	}
	if _, pos, e := parser.Expr(deep(80)); pos != 0 || e != api.OK {
		t.Error(pos, e)
	}
	if _, pos, e := parser.Expr(deep(81)); pos != 0 || e != api.ErrDepth {
		t.Error(pos, e)
	}
	if _, pos, e := parser.Expr(deep(81) + " )"); pos != 82 || e != api.ErrForm {
		t.Error(pos, e)
	}
	if _, pos, e := parser.Block(tall); pos != 0 || e != api.ErrFull {
		t.Error(pos, e)
	}
	if _, pos, e := parser.Block(tall + "x"); pos != len(tall)+1 || e != api.ErrEnd {
		t.Error(pos, e)
	}
	if _, pos, e := parser.Block("x += " + deep(79) + ";"); pos != 0 || e != api.ErrDepth {
		t.Error(pos, e)
	}
	if _, pos, e := parser.Expr(strings.Repeat("(", api.MaxText)); pos != api.MaxText || e != api.ErrEnd {
		t.Error("many parentheses", pos, e)
	}
	if n, _, e := parser.Expr(strings.Repeat("(", 1000) + "x" + strings.Repeat(")", 1000)); n.Name != "x" || e != api.OK {
		t.Error("parentheses yield no depth", e)
	}
	if _, pos, e := parser.Program(strings.Repeat(" ", api.MaxText+1)); pos != 0 || e != api.ErrFull {
		t.Error(pos, e)
	}
}
