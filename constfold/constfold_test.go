package constfold_test

import (
	"math"
	"testing"

	"backstep/api"
	"backstep/ast"
	"backstep/constfold"
	"backstep/parser"
	"backstep/printer"
)

func expr(t *testing.T, s string) api.Node {
	t.Helper()
	n, _, e := parser.Expr(s)
	if e != api.OK {
		t.Fatal(s, e)
	}
	return n
}

func TestConst(t *testing.T) {
	for s, want := range map[string]int{
		"7": 7, "-7": -7, "1 - 4": -3, "(2 + 3) * 4": 20, "!0": 1, "!5": 0, "-7 / 2": -3, "-7 % 2": -1, "1 && 2": 1, "0 || 0": 0,
		"9223372036854775807 + 1": math.MinInt, "3 < 4": 1, "6 & 3 | 8 ^ 1": 11, "2 == 2": 1,
	} {
		if v, ok := constfold.Const(expr(t, s)); v != want || !ok {
			t.Errorf("%q: %d, %v", s, v, ok)
		}
	}
	for _, s := range []string{"x", "1 + x", "0 * x", "a[1]", "top(s)", "size(s)", "7 / 0", "7 % (1 - 1)", "0 && 1 / 0", "-(1 / 0)", "x / 0"} {
		if v, ok := constfold.Const(expr(t, s)); v != 0 || ok {
			t.Errorf("%q: %d, %v", s, v, ok)
		}
	}
	for _, n := range []api.Node{{}, {Kind: api.Num, Num: -1}, {Kind: api.Neg}, {Kind: api.Num, Name: "x"}, {Kind: api.Block}} {
		if v, ok := constfold.Const(n); v != 0 || ok {
			t.Errorf("%v: %d, %v", n, v, ok)
		}
	}
}

func TestExpr(t *testing.T) {
	for s, want := range map[string]string{
		"(2 + 3) * x":                       "5 * x",
		"1 - 4":                             "-3",
		"7 / 0":                             "7 / 0",
		"7 / (1 - 1)":                       "7 / 0",
		"-(3)":                              "-3",
		"--3":                               "3",
		"-0":                                "0",
		"x + 1 + 2":                         "x + 1 + 2",
		"x + (1 + 2)":                       "x + 3",
		"a[1 + 1] + top(s)":                 "a[2] + top(s)",
		"1 / 0 + (2 + 3)":                   "1 / 0 + 5",
		"(2 - 3) / 0":                       "-1 / 0",
		"9223372036854775807 + 1":           "9223372036854775807 + 1",
		"-9223372036854775807 - 1":          "9223372036854775807 + 1",
		"x * (0 - 9223372036854775807 - 1)": "x * (9223372036854775807 + 1)",
		"!x + !2":                           "!x + 0",
	} {
		n := expr(t, s)
		before := ast.Clone(n)
		folded := constfold.Expr(n)
		got, e := printer.Expr(folded)
		if got != want || e != api.OK || !ast.Equal(n, before) {
			t.Errorf("%q: %q, %d", s, got, e)
		}
		if !ast.Equal(constfold.Expr(folded), folded) || ast.Size(folded) > ast.Size(n) || ast.Depth(folded) > ast.Depth(n) {
			t.Errorf("%q: folded twice, or greater", s)
		}
		v, ok := constfold.Const(n)
		w, again := constfold.Const(folded)
		if v != w || ok != again {
			t.Errorf("%q: value %d, %d", s, v, w)
		}
	}
}

func TestExprSharesNoMemory(t *testing.T) {
	n := expr(t, "a[x] + 1")
	folded := constfold.Expr(n)
	folded.Kids[0].Kids[0].Name = "y"
	folded.Kids[1].Num = 2
	if !ast.Equal(n, expr(t, "a[x] + 1")) {
		t.Error("the argument changed")
	}
	bad := api.Node{Kind: api.Block, Kids: []api.Node{expr(t, "1 + 1")}}
	got := constfold.Expr(bad)
	if !ast.Equal(got, bad) {
		t.Error("invalid expressions are copied", got)
	}
	got.Kids[0].Kids[0].Num = 5
	if bad.Kids[0].Kids[0].Num != 1 {
		t.Error("the copy shares memory")
	}
}

func TestProgram(t *testing.T) {
	p, _, e := parser.Program(`int x array a[9] stack s
proc f(int y) { y += 1 + 1; }
main {
	a[1 + 2] += 2 * 3; a[1 + 1] <=> a[x + (1 - 2)]; push a[2 + 2], s; read a[6 / 2];
	if 1 + 1 { x -= 2 - 2; } else { a[0] := 3 + 4; } fi x + (1 + 1);
	local k = 1 + 2 { write a[1 + 0]; } delocal 9 - 1;
	local stack t { pop x, t; call f(x); };
	from 1 == 1 { } loop { x ^= 1 / 0; } until !0;
}`)
	if e != api.OK {
		t.Fatal(e)
	}
	want, _, _ := parser.Program(`int x array a[9] stack s
proc f(int y) { y += 2; }
main {
	a[3] += 6; a[2] <=> a[x + -1]; push a[4], s; read a[3];
	if 2 { x -= 0; } else { a[0] := 7; } fi x + 2;
	local k = 3 { write a[1]; } delocal 8;
	local stack t { pop x, t; call f(x); };
	from 1 { } loop { x ^= 1 / 0; } until 1;
}`)
	got := constfold.Program(p)
	if !ast.Same(got, want) || !ast.Valid(got) {
		s, _ := printer.Program(got)
		t.Error(s)
	}
	got.Vars[0].Name, got.Procs[0].Params[0].Name = "changed", "changed"
	got.Main.Kids[6].Kids[0].Kids[1].Kids[0].Name = "changed"
	if p.Vars[0].Name != "x" || p.Procs[0].Params[0].Name != "y" || p.Main.Kids[6].Kids[0].Kids[1].Kids[0].Name != "x" {
		t.Error("the result shares memory with the argument")
	}
}

func TestInvalidProgram(t *testing.T) {
	p, _, _ := parser.Program("int x proc f(int y) { y += 1 + 1; } main { x += 1 + 1; }")
	p.Vars[0].Len = 5
	got := constfold.Program(p)
	if !ast.Same(got, p) {
		t.Error("an invalid program is copied", got)
	}
	got.Main.Kids[0].Kids[0].Name = "y"
	got.Procs[0].Body.Kids[0].Kids[0].Name = "z"
	if p.Main.Kids[0].Kids[0].Name != "x" || p.Procs[0].Body.Kids[0].Kids[0].Name != "y" {
		t.Error("the copy shares memory")
	}
}
