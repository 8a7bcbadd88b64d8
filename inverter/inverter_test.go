package inverter_test

import (
	"testing"

	"backstep/api"
	"backstep/ast"
	"backstep/internal/sample"
	"backstep/interp"
	"backstep/inverter"
	"backstep/parser"
	"backstep/state"
)

func block(t *testing.T, s string) api.Node {
	t.Helper()
	n, pos, e := parser.Block(s)
	if e != api.OK {
		t.Fatalf("%q: %d, %d", s, pos, e)
	}
	return n
}

func TestStmt(t *testing.T) {
	for s, want := range map[string]string{
		"": "", "x += 1;": "x -= 1;", "x -= a[i];": "x += a[i];", "x ^= 1;": "x ^= 1;", "x <=> a[1];": "x <=> a[1];", "x := 1;": "x := 1;",
		"push x, s;": "pop x, s;", "pop x, s;": "push x, s;", "read x;": "unread x;", "unread x;": "read x;", "write x;": "unwrite x;", "unwrite x;": "write x;",
		"x += 1; call f(x);": "uncall f(x); x -= 1;",
		"uncall f(x);":       "call f(x);",
		"if x > 0 { y += 1; } else { } fi y > 0;":         "if y > 0 { y -= 1; } else { } fi x > 0;",
		"if x { } else { read y; z += 1; } fi y;":         "if y { } else { z -= 1; unread y; } fi x;",
		"from x { x += 1; } loop { push x, s; } until y;": "from y { x -= 1; } loop { pop x, s; } until x;",
		"local k = x { k += 1; y -= k; } delocal 2;":      "local k = 2 { y += k; k -= 1; } delocal x;",
		"local stack s { push x, s; pop y, s; };":         "local stack s { push y, s; pop x, s; };",
		"x += 1; y += 2; z += 3;":                         "z -= 3; y -= 2; x -= 1;",
	} {
		n := block(t, s)
		got, e := inverter.Stmt(n)
		if e != api.OK || !ast.Equal(got, block(t, want)) || !ast.Equal(n, block(t, s)) {
			t.Errorf("%q: %v, %d", s, got, e)
		}
		if again, _ := inverter.Stmt(got); !ast.Equal(again, n) {
			t.Errorf("%q twice", s)
		}
		for _, one := range n.Kids {
			inverse, e := inverter.Stmt(one)
			again, _ := inverter.Stmt(inverse)
			if e != api.OK || !ast.IsStmt(inverse) || !ast.Equal(again, one) {
				t.Errorf("%v: %v, %d", one, inverse, e)
			}
		}
	}
	for _, n := range []api.Node{{}, {Kind: api.Num}, {Kind: api.Plus}, {Kind: api.Block, Kids: []api.Node{{Kind: api.Num}}}} {
		if got, e := inverter.Stmt(n); got.Kind != 0 || e != api.ErrForm {
			t.Errorf("%v: %v, %d", n, got, e)
		}
	}
}

func TestNewMemory(t *testing.T) {
	n := block(t, "a[x] += 1; if x { y += 1; } else { } fi x;")
	got, _ := inverter.Stmt(n)
	got.Kids[1].Kids[0].Kids[0].Name, got.Kids[0].Kids[0].Name = "changed", "changed"
	if !ast.Equal(n, block(t, "a[x] += 1; if x { y += 1; } else { } fi x;")) {
		t.Error("the result shares memory with the argument")
	}
	p := sample.Program(5)
	for _, of := range []func(api.Program) (api.Program, api.Errno){inverter.Program, inverter.Deep} {
		q, _ := of(p)
		q.Vars[0].Name, q.Procs[0].Params[0].Name = "changed", "changed"
		for path, m := range ast.Walk(q.Main) {
			if len(path) > 0 && len(m.Kids) > 0 {
				m.Kids[0].Name = "changed"
			}
		}
		for _, m := range ast.Walk(q.Procs[0].Body) {
			if len(m.Kids) > 0 {
				m.Kids[0].Name = "changed"
			}
		}
		if !ast.Same(p, sample.Program(5)) {
			t.Fatal("the result shares memory with the argument")
		}
	}
}

func TestProgramAndDeep(t *testing.T) {
	parse := func(s string) api.Program {
		p, _, e := parser.Program(s)
		if e != api.OK {
			t.Fatal(s, e)
		}
		return p
	}
	p := parse("int x proc f(int y) { y += 1; call g(y); } proc g(int y) { uncall g(y); } main { call f(x); x -= 1; }")
	got, e := inverter.Program(p)
	if e != api.OK || !ast.Same(got, parse("int x proc f(int y) { y += 1; call g(y); } proc g(int y) { uncall g(y); } main { x += 1; uncall f(x); }")) {
		t.Error(got, e)
	}
	got, e = inverter.Deep(p)
	if e != api.OK || !ast.Same(got, parse("int x proc f(int y) { call g(y); y -= 1; } proc g(int y) { uncall g(y); } main { x += 1; call f(x); }")) {
		t.Error(got, e)
	}
	for _, of := range []func(api.Program) (api.Program, api.Errno){inverter.Program, inverter.Deep} {
		again, _ := of(p)
		again, _ = of(again)
		if !ast.Same(again, p) {
			t.Error("the inverse of the inverse", again)
		}
		if q, e := of(api.Program{Vars: p.Vars}); e != api.ErrForm || !ast.Same(q, api.Program{}) {
			t.Error(q, e)
		}
	}
}

func TestPalindrome(t *testing.T) {
	for s, want := range map[string]bool{
		"": true, "x <=> y;": true, "x += 1;": false, "x += 1; x -= 1;": true, "x += 1; y -= 1;": false, "x ^= 1; y ^= 1;": false, "x ^= 1; y ^= 1; x ^= 1;": true,
		"if x { y += 1; y -= 1; } else { } fi x;": true, "call f(); uncall f();": true, "x := 1;": true, "push x, s; pop x, s;": true,
	} {
		if inverter.Palindrome(block(t, s)) != want {
			t.Errorf("%q", s)
		}
	}
	if inverter.Palindrome(block(t, "x <=> y;").Kids[0]) || inverter.Palindrome(api.Node{}) {
		t.Error("no blocks")
	}
}

func TestRunsOfInverses(t *testing.T) {
	for seed := range 3000 {
		p, s := sample.Program(seed), sample.State(seed+1)
		want := interp.Backward(p, s, 2000)
		for i, of := range []func(api.Program) (api.Program, api.Errno){inverter.Program, inverter.Deep} {
			q, _ := of(p)
			got := interp.Forward(q, s, 2000)
			if got.Err != want.Err || got.Steps != want.Steps || !state.Equal(got.State, want.State) {
				t.Fatalf("program %d, inverse %d: %v, not %v", seed, i, got, want)
			}
		}
	}
}
