package scope_test

import (
	"slices"
	"testing"

	"backstep/api"
	"backstep/parser"
	"backstep/scope"
)

func parse(t *testing.T, s string) api.Program {
	t.Helper()
	p, pos, e := parser.Program(s)
	if e != api.OK {
		t.Fatalf("%q: %d, %d", s, pos, e)
	}
	return p
}

func fault(proc int, e api.Errno, name string, path ...int) scope.Fault {
	return scope.Fault{Proc: proc, Path: path, Err: e, Name: name}
}

func same(a, b scope.Fault) bool {
	return a.Proc == b.Proc && a.Err == b.Err && a.Name == b.Name && slices.Equal(a.Path, b.Path)
}

func TestCheck(t *testing.T) {
	for s, want := range map[string][]scope.Fault{
		"int x main { x += y; local x = 1 { x += 1; } delocal 2; }":                                  {fault(0, api.ErrName, "y", 0, 1), fault(0, api.ErrTwice, "x", 1)},
		"int x array a[2] stack s main { x += a[x]; push x, s; x += top(s) + size(s); a[0] <=> x; }": nil,
		"int x stack x int x main { }":                                                               {fault(-1, api.ErrTwice, "x", 1), fault(-1, api.ErrTwice, "x", 2)},
		"int x stack x main { x += 1; }":                                                             {fault(-1, api.ErrTwice, "x", 1), fault(0, api.ErrType, "x", 0, 0)},
		"proc f() {} proc f(int a, int b, int a) {} main {}":                                         {fault(1, api.ErrTwice, "f"), fault(1, api.ErrTwice, "a")},
		"int x proc f() { x += 1; } main { }":                                                        {fault(0, api.ErrName, "x", 0, 0)},
		"int x array a[2] stack s main { a += s; }":                                                  {fault(0, api.ErrType, "a", 0, 0), fault(0, api.ErrType, "s", 0, 1)},
		"int x array a[2] stack s main { x[s] <=> s[x]; }":                                           {fault(0, api.ErrType, "x", 0, 0), fault(0, api.ErrType, "s", 0, 0, 0), fault(0, api.ErrType, "s", 0, 1)},
		"int x array a[2] stack s main { x += top(x) + size(a); }":                                   {fault(0, api.ErrType, "x", 0, 1, 0), fault(0, api.ErrType, "a", 0, 1, 1)},
		"int x array a[2] stack s main { push y, x; pop x, z; }":                                     {fault(0, api.ErrType, "x", 0), fault(0, api.ErrName, "y", 0, 0), fault(0, api.ErrName, "z", 1)},
		"int x main { x += b[1] + top(t) + size(t); read y; }":                                       {fault(0, api.ErrName, "b", 0, 1, 0, 0), fault(0, api.ErrName, "t", 0, 1, 0, 1), fault(0, api.ErrName, "t", 0, 1, 1), fault(0, api.ErrName, "y", 1, 0)},
		"int x main { call f(x, y); uncall g(); }":                                                   {fault(0, api.ErrName, "f", 0), fault(0, api.ErrName, "y", 0, 1), fault(0, api.ErrName, "g", 1)},
		"int x stack s proc f(int a) {} main { call f(s, z); uncall f(); }":                          {fault(1, api.ErrType, "f", 0), fault(1, api.ErrName, "z", 0, 1), fault(1, api.ErrType, "f", 1)},
		"int x stack s array a[2] array b[3] proc f(array c[2], int d) {} main { call f(a, x); call f(b, s); uncall f(x, y); }": {
			fault(1, api.ErrType, "b", 1, 0), fault(1, api.ErrType, "s", 1, 1), fault(1, api.ErrType, "x", 2, 0), fault(1, api.ErrName, "y", 2, 1)},
		"int x main { local y = y { y += x; } delocal y; y += 1; }":               {fault(0, api.ErrName, "y", 0, 0), fault(0, api.ErrName, "y", 0, 2), fault(0, api.ErrName, "y", 1, 0)},
		"int x main { local stack t { push x, t; local stack t { }; }; }":         {fault(0, api.ErrTwice, "t", 0, 0, 1)},
		"int x main { local y = 1 { local stack y { push x, y; }; } delocal 1; }": {fault(0, api.ErrTwice, "y", 0, 1, 0)},
		"int x main { local y = 1 { } delocal 1; local y = 1 { } delocal 1; }":    nil,
		"int f proc f(int f) { f += 1; call f(f); } main { call f(f); }":          nil,
		"proc f(int x) { call g(); } proc g() { call f(x); } main { call h(); }":  {fault(1, api.ErrName, "x", 0, 0), fault(2, api.ErrName, "h", 0)},
		"array f[2] proc f(int x) { } main { f[0] += 1; f[0] <=> f[1]; }":         nil,
		"proc f(int a, stack a) { a += 1; } main { }":                             {fault(0, api.ErrTwice, "a"), fault(0, api.ErrType, "a", 0, 0)},
		"int x main { if y { } else { z += 1; } fi w; }":                          {fault(0, api.ErrName, "y", 0, 0), fault(0, api.ErrName, "z", 0, 2, 0, 0), fault(0, api.ErrName, "w", 0, 3)},
	} {
		got := scope.Check(parse(t, s))
		if !slices.EqualFunc(got, want, same) {
			t.Errorf("%q:\n%v, not\n%v", s, got, want)
		}
	}
	x := api.VarDecl{Name: "x", Kind: api.Int}
	if l := scope.Check(api.Program{Vars: []api.VarDecl{x, x}}); len(l) != 0 {
		t.Error("faults of an invalid program", l)
	}
}

func TestPathsAreNew(t *testing.T) {
	l := scope.Check(parse(t, "main { x += y; z += 1; }"))
	if len(l) != 3 {
		t.Fatal(l)
	}
	l[0].Path[0] = 9
	_ = append(l[0].Path[:1], 9)
	if !slices.Equal(l[1].Path, []int{0, 1}) || !slices.Equal(l[2].Path, []int{1, 0}) {
		t.Error("paths share memory", l)
	}
}

func TestUnusedDeclarationsAndRenaming(t *testing.T) {
	a := scope.Check(parse(t, "int x main { x += y; local k = 1 { k[1] += x; } delocal 2; }"))
	b := scope.Check(parse(t, "int z int w main { z += y; local k = 1 { k[1] += z; } delocal 2; }"))
	if !slices.EqualFunc(a, b, same) || len(a) != 2 {
		t.Error(a, b)
	}
}

func TestVisible(t *testing.T) {
	p := parse(t, `int x array a[2]
proc f(stack s, int y) { local k = 1 { local stack u { k += y; }; k += 1; } delocal 1; }
main { x += 1; local k = x { local k = 2 { x += k; } delocal 2; } delocal x; }`)
	v := func(name string, kind byte, n int) api.VarDecl { return api.VarDecl{Name: name, Kind: kind, Len: n} }
	x, a, s, y := v("x", api.Int, 0), v("a", api.Array, 2), v("s", api.Stack, 0), v("y", api.Int, 0)
	k, u := v("k", api.Int, 0), v("u", api.Stack, 0)
	for _, c := range []struct {
		proc int
		path []int
		want []api.VarDecl
		e    api.Errno
	}{
		{1, nil, []api.VarDecl{x, a}, api.OK},
		{1, []int{0, 1}, []api.VarDecl{x, a}, api.OK},
		{1, []int{1}, []api.VarDecl{x, a}, api.OK},
		{1, []int{1, 0}, []api.VarDecl{x, a}, api.OK},
		{1, []int{1, 1}, []api.VarDecl{x, a, k}, api.OK},
		{1, []int{1, 2}, []api.VarDecl{x, a}, api.OK},
		{1, []int{1, 1, 0, 1, 0}, []api.VarDecl{x, a, k, k}, api.OK},
		{0, nil, []api.VarDecl{s, y}, api.OK},
		{0, []int{0, 1, 0, 0, 0}, []api.VarDecl{s, y, k, u}, api.OK},
		{0, []int{0, 1, 1}, []api.VarDecl{s, y, k}, api.OK},
		{-1, nil, nil, api.ErrRange}, {2, []int{7}, nil, api.ErrRange},
		{1, []int{2}, nil, api.ErrNone}, {1, []int{-1}, nil, api.ErrNone}, {0, []int{0, 1, 0, 1}, nil, api.ErrNone},
	} {
		got, e := scope.Visible(p, c.proc, c.path)
		if !slices.Equal(got, c.want) || e != c.e {
			t.Errorf("%d %v: %v, %d", c.proc, c.path, got, e)
		}
	}
	got, _ := scope.Visible(p, 1, nil)
	got[0].Name = "changed"
	if p.Vars[0].Name != "x" {
		t.Error("Visible shares memory with the program")
	}
	if l, e := scope.Visible(api.Program{}, 5, nil); len(l) != 0 || e != api.ErrForm {
		t.Error("invalid program", e)
	}
}

func TestFindAndProc(t *testing.T) {
	l := []api.VarDecl{{Name: "x", Kind: api.Int}, {Name: "y", Kind: api.Int}, {Name: "x", Kind: api.Stack}}
	if v, ok := scope.Find(l, "x"); !ok || v != l[2] {
		t.Error("the last declaration counts", v)
	}
	if v, ok := scope.Find(l, "z"); ok || v != (api.VarDecl{}) {
		t.Error("no declaration", v)
	}
	p := api.Program{Procs: []api.Proc{{Name: "f"}, {Name: "g"}, {Name: "f"}}}
	if scope.Proc(p, "f") != 0 || scope.Proc(p, "g") != 1 || scope.Proc(p, "h") != -1 {
		t.Error("Proc")
	}
}
