package printer_test

import (
	"strings"
	"testing"

	"backstep/api"
	"backstep/ast"
	"backstep/parser"
	"backstep/printer"
)

func num(n int) api.Node                     { return api.Node{Kind: api.Num, Num: n} }
func name(s string) api.Node                 { return api.Node{Kind: api.Var, Name: s} }
func node(k byte, kids ...api.Node) api.Node { return api.Node{Kind: k, Kids: kids} }
func with(k byte, s string, kids ...api.Node) api.Node {
	return api.Node{Kind: k, Name: s, Kids: kids}
}

func TestExpr(t *testing.T) {
	x, y, z := name("x"), name("y"), name("z")
	for want, n := range map[string]api.Node{
		"0":                   num(0),
		"9223372036854775807": num(1<<63 - 1),
		"x * (y + 1)":         node(api.Mul, x, node(api.Add, y, num(1))),
		"x - (y - z)":         node(api.Sub, x, node(api.Sub, y, z)),
		"x - y - z":           node(api.Sub, node(api.Sub, x, y), z),
		"--x":                 node(api.Neg, node(api.Neg, x)),
		"!(x < 2)":            node(api.Not, node(api.Lt, x, num(2))),
		"-!a[x + 1]":          node(api.Neg, node(api.Not, with(api.Item, "a", node(api.Add, x, num(1))))),
		"top(s) % size(t)":    node(api.Mod, with(api.Top, "s"), with(api.Size, "t")),
		"-x * -y":             node(api.Mul, node(api.Neg, x), node(api.Neg, y)),
		"-(x * y)":            node(api.Neg, node(api.Mul, x, y)),
		"(x || y) && z":       node(api.Both, node(api.Either, x, y), z),
		"x || y && z":         node(api.Either, x, node(api.Both, y, z)),
		"x | y ^ z & 1":       node(api.Or, x, node(api.Xor, y, node(api.And, z, num(1)))),
		"((x | y) ^ z) & 1":   node(api.And, node(api.Xor, node(api.Or, x, y), z), num(1)),
		"x == y != z":         node(api.Ne, node(api.Eq, x, y), z),
		"x <= (y >= z)":       node(api.Le, x, node(api.Ge, y, z)),
		"x > y / z":           node(api.Gt, x, node(api.Div, y, z)),
		"(x && y) == 1":       node(api.Eq, node(api.Both, x, y), num(1)),
	} {
		s, e := printer.Expr(n)
		back, _, _ := parser.Expr(s)
		if s != want || e != api.OK || !ast.Equal(back, n) {
			t.Errorf("%q, %d instead of %q", s, e, want)
		}
	}
}

func TestAllPairsOfOperators(t *testing.T) {
	seen := map[string]bool{}
	x := name("x")
	var l []api.Node
	for _, n := range []api.Node{x, node(api.Neg, x), node(api.Not, x)} {
		l = append(l, n)
	}
	for op := api.Add; op <= api.Either; op++ {
		l = append(l, node(op, x, x))
	}
	for op := api.Neg; op <= api.Either; op++ {
		for _, a := range l {
			for _, b := range l {
				n := node(op, a, b)
				if op < api.Add {
					n = node(op, a)
				}
				s, e := printer.Expr(n)
				back, _, _ := parser.Expr(s)
				if e != api.OK || !ast.Equal(back, n) {
					t.Fatalf("%q", s)
				}
				if op >= api.Add && seen[s] {
					t.Errorf("%q twice", s)
				}
				seen[s] = true
			}
		}
	}
}

const canonical = `int x
array a[5]
stack s
proc f(int y, array b[2], stack t) {
	y += 1;
	b[0] -= y;
	y ^= top(t);
}
proc g() {
}
main {
	x := 1;
	x <=> a[1];
	push x, s;
	pop a[x], s;
	read x;
	unread x;
	write x;
	unwrite x;
	call f(x, a, s);
	uncall g();
	if x > 0 {
		if 1 {
			x += 1;
		} else {
		} fi 1;
	} else {
	} fi !x;
	from x == 0 {
	} loop {
		x += 1;
	} until x == 3;
	local k = x + 1 {
		local stack u {
			push k, u;
		};
	} delocal x;
}
`

func TestProgram(t *testing.T) {
	p, _, e := parser.Program(canonical)
	if e != api.OK {
		t.Fatal(e)
	}
	s, e := printer.Program(p)
	if s != canonical || e != api.OK {
		t.Error(s, e)
	}
	again, _, _ := parser.Program(s)
	if !ast.Same(p, again) {
		t.Error("the text is read as another program")
	}
	if s, _ := printer.Program(api.Program{Main: node(api.Block)}); s != "main {\n}\n" {
		t.Errorf("%q", s)
	}
}

func TestBlock(t *testing.T) {
	p, _, _ := parser.Program(canonical)
	s, e := printer.Block(p.Main)
	_, main, _ := strings.Cut(canonical, "main {\n")
	want := strings.TrimSuffix(strings.ReplaceAll("\n"+main, "\n\t", "\n")[1:], "}\n")
	if s != want || e != api.OK {
		t.Errorf("%s", s)
	}
	if s, e := printer.Block(node(api.Block)); s != "" || e != api.OK {
		t.Error("the empty block")
	}
}

func TestErrors(t *testing.T) {
	for _, n := range []api.Node{{}, node(api.Add, num(1)), node(api.Block), num(-1), node(api.Neg, node(api.Block)), name("if")} {
		if s, e := printer.Expr(n); s != "" || e != api.ErrForm {
			t.Errorf("expression %v: %q", n, s)
		}
	}
	for _, n := range []api.Node{{}, num(1), node(api.Read, name("x")), node(api.Block, num(1)), node(api.Block, node(api.Plus, num(1), num(1)))} {
		if s, e := printer.Block(n); s != "" || e != api.ErrForm {
			t.Errorf("block %v: %q", n, s)
		}
	}
	bad := api.Program{Vars: []api.VarDecl{{Name: "x", Kind: api.Int, Len: 1}}, Main: node(api.Block)}
	if s, e := printer.Program(bad); s != "" || e != api.ErrForm {
		t.Error("invalid program", s)
	}
	if s, e := printer.Program(api.Program{}); s != "" || e != api.ErrForm {
		t.Error("zero program", s)
	}
}
