package effects_test

import (
	"slices"
	"strings"
	"testing"

	"backstep/api"
	"backstep/effects"
	"backstep/parser"
)

func stmt(t *testing.T, s string) api.Node {
	t.Helper()
	n, pos, e := parser.Block(s)
	if e != api.OK {
		t.Fatalf("%q: %d, %d", s, pos, e)
	}
	if len(n.Kids) == 1 {
		return n.Kids[0]
	}
	return n
}

func TestReadsAndWrites(t *testing.T) {
	for s, want := range map[string][2]string{
		"a[i] += x;":                    {"a i x", "a"},
		"x -= 1;":                       {"x", "x"},
		"x ^= top(s) + size(t) * b[y];": {"b s t x y", "x"},
		"x := y;":                       {"x y", "x"},
		"x <=> a[i];":                   {"a i x", "a x"},
		"push x, s;":                    {"s x", "s x"},
		"pop a[i], s;":                  {"a i s", "a s"},
		"read x;":                       {"x", "x"},
		"unread a[i];":                  {"a i", "a"},
		"write x;":                      {"x", "x"},
		"unwrite x;":                    {"x", "x"},
		"call f(z, y);":                 {"y z", "y z"},
		"uncall f();":                   {"", ""},
		"if x { y += z; } else { w += 1; } fi v;":      {"v w x y z", "w y"},
		"from x { y += z; } loop { w += 1; } until v;": {"v w x y z", "w y"},
		"local k = x { y += k; } delocal x;":           {"x y", "y"},
		"local k = k { k += y; } delocal k;":           {"k y", ""},
		"local x = 1 { x += 1; } delocal x;":           {"x", ""},
		"local stack s { push x, s; push y, t; };":     {"t x y", "t x y"},
		"x += 1; b += a; x += 2;":                      {"a b x", "b x"},
	} {
		n := stmt(t, s)
		if got := strings.Join(effects.Reads(n), " "); got != want[0] {
			t.Errorf("%q reads %q", s, got)
		}
		if got := strings.Join(effects.Writes(n), " "); got != want[1] {
			t.Errorf("%q writes %q", s, got)
		}
		for _, w := range effects.Writes(n) {
			if !slices.Contains(effects.Reads(n), w) {
				t.Errorf("%q writes %q, which is not free", s, w)
			}
		}
	}
}

func TestArbitraryTrees(t *testing.T) {
	v := func(s string) api.Node { return api.Node{Kind: api.Var, Name: s} }
	for _, c := range []struct {
		n             api.Node
		reads, writes string
	}{
		{api.Node{}, "", ""},
		{api.Node{Kind: api.Plus}, "", ""},
		{api.Node{Kind: api.Plus, Kids: []api.Node{{Kind: api.Top, Name: "s"}, v("x")}}, "s x", ""},
		{api.Node{Kind: api.Swap, Kids: []api.Node{v("x")}}, "x", "x"},
		{api.Node{Kind: api.Swap, Kids: []api.Node{v("x"), v("y"), v("z")}}, "x y z", "x y"},
		{api.Node{Kind: api.Push, Name: "s"}, "s", "s"},
		{api.Node{Kind: api.Push, Name: "s", Kids: []api.Node{{Kind: api.Num}}}, "s", "s"},
		{api.Node{Kind: api.Push, Name: "s", Kids: []api.Node{v("x"), v("y")}}, "s x y", "s x"},
		{api.Node{Kind: api.Uncall, Name: "f", Kids: []api.Node{v("x")}}, "x", "x"},
		{api.Node{Kind: api.Call, Name: "f", Kids: []api.Node{v("x"), {Kind: api.Neg, Kids: []api.Node{v("y")}}}}, "x y", "x"},
		{api.Node{Kind: api.Local, Name: "k", Kids: []api.Node{v("k")}}, "k", ""},
		{api.Node{Kind: api.Local, Name: "k"}, "", ""},
		{api.Node{Kind: api.LocalStack, Name: "k", Kids: []api.Node{{Kind: api.Read, Kids: []api.Node{v("k")}}, {Kind: api.Read, Kids: []api.Node{v("k")}}}}, "k", "k"},
		{api.Node{Kind: api.Neg, Kids: []api.Node{{Kind: api.Read, Kids: []api.Node{v("x")}}}}, "x", ""},
	} {
		if got := strings.Join(effects.Reads(c.n), " "); got != c.reads {
			t.Errorf("%v reads %q", c.n, got)
		}
		if got := strings.Join(effects.Writes(c.n), " "); got != c.writes {
			t.Errorf("%v writes %q", c.n, got)
		}
	}
}

func TestTapes(t *testing.T) {
	for s, want := range map[string]bool{
		"read x;": true, "unread x;": true, "write x;": true, "unwrite x;": true, "call f();": true, "uncall f();": true,
		"x += 1; push x, s; pop x, s; x <=> y;": false, "if 1 { } else { local k = 1 { write x; } delocal 1; } fi 1;": true,
		"local stack s { };": false,
	} {
		if effects.Tapes(stmt(t, s)) != want {
			t.Errorf("%q", s)
		}
	}
}

func TestIndependent(t *testing.T) {
	for _, c := range []struct {
		a, b string
		want bool
	}{
		{"x += y;", "z += y;", true}, {"x += y;", "y += 1;", false}, {"x += 1;", "x += 1;", false}, {"x += 1;", "y += x;", false},
		{"read x;", "read y;", false}, {"read x;", "y += 1;", true}, {"call f(x);", "call f(y);", false}, {"call f(x);", "y += 1;", true},
		{"push x, s;", "y += size(s);", false}, {"local k = 1 { k += 1; } delocal 2;", "k += 1;", true}, {"x += z;", "y += z;", true},
	} {
		a, b := stmt(t, c.a), stmt(t, c.b)
		if effects.Independent(a, b) != c.want || effects.Independent(b, a) != c.want {
			t.Errorf("%q and %q", c.a, c.b)
		}
	}
}

func TestCalls(t *testing.T) {
	p, _, e := parser.Program(`
proc f() { call g(); uncall g(); call nothing(); }
proc g() { if 1 { call h(); } else { call f(); } fi 1; }
proc h() { }
proc g() { call g2(); }
proc r() { uncall r(); }
proc c(int r) { call f(); r += 1; }
proc d() { call h(); call h(); }
main { call h(); uncall f(); call f(); }`)
	if e != api.OK {
		t.Fatal(e)
	}
	for proc, want := range map[int][]int{-1: {0, 2}, 0: {1}, 1: {0, 2}, 2: nil, 3: nil, 4: {4}, 5: {0}, 6: {2}, 7: nil, -2: nil} {
		if got := effects.Calls(p, proc); !slices.Equal(got, want) {
			t.Errorf("calls of %d: %v", proc, got)
		}
	}
	for proc, want := range map[int]bool{-1: false, 0: true, 1: true, 2: false, 3: false, 4: true, 5: false, 6: false, 7: false, -2: false} {
		if effects.Recursive(p, proc) != want {
			t.Errorf("recursive %d", proc)
		}
	}
}
