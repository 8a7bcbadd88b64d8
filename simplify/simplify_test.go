package simplify_test

import (
	"testing"

	"backstep/api"
	"backstep/ast"
	"backstep/checker"
	"backstep/internal/sample"
	"backstep/interp"
	"backstep/inverter"
	"backstep/parser"
	"backstep/simplify"
	"backstep/state"
)

func block(t *testing.T, s string) api.Node {
	t.Helper()
	n, pos, e := parser.Block(s)
	if e != api.OK {
		t.Fatalf("%q: %d, %d", s, pos, e)
	}
	return n
}

func TestCancels(t *testing.T) {
	for s, want := range map[string]bool{
		"x += 1; x -= 1;": true, "x -= y; x += y;": true, "x += 1; x += 1;": false, "x += 1; x -= 2;": false, "x += 1; y -= 1;": false, "x ^= 1; x ^= 1;": true, "x <=> y; x <=> y;": true, "x <=> y; y <=> x;": false,
		"x := 1; x := 1;": false, "x := 1; x -= 1;": false, "x += 1; x := 1;": false, "push x, s; pop x, s;": true, "pop x, s; push x, s;": true, "read x; unread x;": true, "write x; unwrite x;": true, "call f(x); uncall f(x);": true, "call f(x); call f(x);": false,
		"if x { y += 1; } else { } fi z; if z { y -= 1; } else { } fi x;": true, "if x { y += 1; } else { } fi z; if x { y -= 1; } else { } fi z;": false, "from x { } loop { } until y; from y { } loop { } until x;": true,
		"local k = 1 { k += 1; } delocal 2; local k = 2 { k -= 1; } delocal 1;": true, "local stack s { }; local stack s { };": true, "x += 1 + 1; x -= 2;": false, "if 1 { x := 1; } else { } fi 1; if 1 { x := 1; } else { } fi 1;": true,
	} {
		n := block(t, s)
		if simplify.Cancels(n.Kids[0], n.Kids[1]) != want {
			t.Errorf("%q", s)
		}
	}
	for _, n := range []api.Node{{}, {Kind: api.Num, Num: 1}, {Kind: api.Swap}, block(t, "")} {
		if simplify.Cancels(n, n) {
			t.Error("no statement", n)
		}
	}
}

func TestBlock(t *testing.T) {
	for s, want := range map[string]string{
		"": "", "x += 1; y ^= x; y ^= x; x -= 1;": "", "x := 1; x := 1;": "x := 1; x := 1;", "x += 1; x += 1;": "x += 1; x += 1;", "x += 1; x -= 1; x += 1;": "x += 1;", "x ^= 1; x ^= 1; x ^= 1;": "x ^= 1;",
		"if x { y += 1; y -= 1; } else { z ^= 1; z ^= 1; read z; } fi x;":                                 "if x { } else { read z; } fi x;",
		"local k = 1 { from x { y += 1; y -= 1; } loop { call f(x); uncall f(x); } until y; } delocal 1;": "local k = 1 { from x { } loop { } until y; } delocal 1;",
		"local stack s { push x, s; pop x, s; };":                                                         "local stack s { };",
		"if x { y += 1; y -= 1; } else { } fi z; if z { } else { w ^= 1; w ^= 1; } fi x;":                 "",
		"x += 1; if x { y += 1; y -= 1; } else { } fi z; if z { } else { } fi x; x -= 1;":                 "",
		"x += 1; y += 1; x -= 1; y -= 1;":                                                                 "x += 1; y += 1; x -= 1; y -= 1;",
	} {
		n := block(t, s)
		got := simplify.Block(n)
		if !ast.Equal(got, block(t, want)) || !ast.Equal(n, block(t, s)) || !ast.Equal(simplify.Block(got), got) {
			t.Errorf("%q: %v", s, got)
		}
	}
	for _, n := range []api.Node{{}, {Kind: api.Neg, Kids: block(t, "x += 1; x -= 1;").Kids}, block(t, "x += 1;").Kids[0], {Kind: api.Block, Kids: []api.Node{block(t, ""), {Kind: api.Num}}}} {
		got := simplify.Block(n)
		if !ast.Equal(got, n) {
			t.Error("a copy", got)
		}
		for i := range got.Kids {
			got.Kids[i].Name = "changed"
			if n.Kids[i].Name == "changed" {
				t.Error("the copy shares memory")
			}
		}
	}
	n := block(t, "a[x] += 1; if x { y += 1; } else { } fi x;")
	got := simplify.Block(n)
	got.Kids[0].Kids[0].Kids[0].Name, got.Kids[1].Kids[1].Kids[0].Kids[0].Name = "changed", "changed"
	if !ast.Equal(n, block(t, "a[x] += 1; if x { y += 1; } else { } fi x;")) {
		t.Error("the result shares memory")
	}
}

func TestProgram(t *testing.T) {
	parse := func(s string) api.Program {
		p, pos, e := parser.Program(s)
		if e != api.OK {
			t.Fatal(s, pos, e)
		}
		return p
	}
	text := "int x proc f(int y) { y += 1; y -= 1; y += 2; } main { x += 1; x -= 1; }"
	p := parse(text)
	got := simplify.Program(p)
	if !ast.Same(got, parse("int x proc f(int y) { y += 2; } main { }")) {
		t.Error(got)
	}
	got.Vars[0].Name, got.Procs[0].Params[0].Name = "changed", "changed"
	if !ast.Same(p, parse(text)) {
		t.Error("the result shares memory")
	}
	p.Vars[0].Len = 1
	got = simplify.Program(p)
	if !ast.Same(got, p) {
		t.Error("an invalid program is copied", got)
	}
	got.Main.Kids[0].Kids[0].Name, got.Vars[0].Name = "changed", "changed"
	if p.Main.Kids[0].Kids[0].Name != "x" || p.Vars[0].Name != "x" {
		t.Error("the copy shares memory")
	}
}

// doubled inserts statements and their inverses into a block.
func doubled(n api.Node, seed int) api.Node {
	var kids []api.Node
	for i, s := range n.Kids {
		inverse, _ := inverter.Stmt(s)
		kids = append(kids, s)
		if (seed+i)%2 == 0 {
			kids = append(kids, inverse, s)
		}
	}
	n.Kids = kids
	return n
}

func TestRuns(t *testing.T) {
	shorter := 0
	for seed := range 1000 {
		p, s := sample.Program(seed), sample.State(seed)
		p.Main = doubled(p.Main, seed)
		if ast.Size(p.Main) > 600 {
			continue
		}
		q := simplify.Program(p)
		a, _ := inverter.Program(q)
		b, _ := inverter.Program(p)
		if !checker.OK(q) || !ast.Equal(a.Main, simplify.Program(b).Main) {
			t.Fatal(seed, "inversion, or a program that is not accepted")
		}
		for _, run := range []func(api.Program, api.State, int) interp.Result{interp.Forward, interp.Backward} {
			x := run(p, s, 5000)
			if x.Err != api.OK {
				continue
			}
			y := run(q, s, 5000)
			if y.Err != api.OK || y.Steps > x.Steps || !state.Equal(x.State, y.State) {
				t.Fatal(seed, x, y)
			}
			if y.Steps < x.Steps {
				shorter++
			}
		}
	}
	if shorter < 50 {
		t.Error(shorter)
	}
}
