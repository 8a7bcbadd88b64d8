package cleangen_test

import (
	"slices"
	"strings"
	"testing"

	"backstep/anf"
	"backstep/api"
	"backstep/ast"
	"backstep/build"
	"backstep/checker"
	"backstep/cleangen"
	"backstep/funeval"
	"backstep/funtext"
	"backstep/internal/functions"
	"backstep/interp"
	"backstep/listlib"
	"backstep/parser"
	"backstep/state"
)

const much = 1 << 22

func normalize(t *testing.T, s string) []anf.Func {
	t.Helper()
	lib, pos, e := funtext.Parse(s)
	if e != api.OK {
		t.Fatalf("%.80q: %d, %d", s, pos, e)
	}
	l, e := anf.Normalize(lib)
	if e != api.OK {
		t.Fatal(e)
	}
	return l
}

func block(t *testing.T, s string) api.Node {
	t.Helper()
	n, pos, e := parser.Block(s)
	if e != api.OK {
		t.Fatalf("%q: %d, %d", s, pos, e)
	}
	return n
}

func TestCompute(t *testing.T) {
	for source, want := range map[string]string{
		"proc f(int x) int { 5 }":                           "t0 += 5;",
		"proc f(int x) int { x }":                           "",
		"proc f(int x) int { x * x - 1 }":                   "t0 += x * x; t1 += 1; t2 += t0 - t1;",
		"proc f(int x) int { if x { x } else { 2 } }":       "if x { t0 += x; } else { t1 += 2; t0 += t1; } fi x;",
		"proc f(stack l) stack { if !l { l } else { [] } }": "t0 += size(l) == 0; if t0 { call lcopy(l, t1); } else { call lcopy(t2, t1); } fi t0;",
		"proc f(int x, stack l) stack { f(x, l) }":          "t0 += x; call lcopy(l, t1); call pf(t0, t1, t2, e, k);",
		"proc f(int x, stack l) stack { push(x, l) }":       "call lcopy(l, t0); local h0 = x { push h0, t0; } delocal 0;",
		"proc f(stack l) int { top(l) }":                    "t0 += top(l);",
		"proc f(stack l) stack { pop(l) }":                  "call lcopy(l, t0); local h0 = 0 { pop h0, t0; } delocal top(l);",
	} {
		var asked []string
		c, e := cleangen.Compute(normalize(t, source)[0], func(name string) (string, []string) {
			asked = append(asked, name)
			return "p" + name, []string{"e", "k"}
		})
		if e != api.OK || !ast.Equal(c, block(t, want)) || len(asked) != strings.Count(want, "pf(") {
			t.Errorf("%q: %v, %d, %v", source, c, e, asked)
		}
	}
	if c, e := cleangen.Compute(normalize(t, "proc f() int { 1 }")[0], nil); e != api.ErrArg || c.Kind != 0 {
		t.Error(c, e)
	}
}

func TestProc(t *testing.T) {
	for source, want := range map[string]string{
		"proc f(int x) int { x * x }":             "proc f(int x, int out) { local t0 = 0 { t0 += x * x; out ^= t0; t0 -= x * x; } delocal 0; } main { }",
		"proc f(int x) int { x }":                 "proc f(int x, int out) { out ^= x; } main { }",
		"proc f(stack l, int x) stack { l }":      "proc f(stack l, int x, stack out) { call lcopy(l, out); } main { }",
		"proc f(stack l) stack { f(push(1, l)) }": "proc f(stack l, stack out) { local t0 = 0 { local stack t1 { local stack t2 { t0 += 1; call lcopy(l, t1); local h0 = t0 { push h0, t1; } delocal 0; call f(t1, t2); call lcopy(t2, out); uncall f(t1, t2); local h0 = 0 { pop h0, t1; } delocal t0; uncall lcopy(l, t1); t0 -= 1; }; }; } delocal 0; } main { }",
	} {
		got, e := cleangen.Proc(normalize(t, source)[0])
		p, pos, e2 := parser.Program(want)
		if e2 != api.OK {
			t.Fatal(pos, e2)
		}
		if e != api.OK || got.Name != p.Procs[0].Name || !slices.Equal(got.Params, p.Procs[0].Params) || !ast.Equal(got.Body, p.Procs[0].Body) {
			t.Errorf("%q: %v, %d", source, got, e)
		}
		if !slices.Equal(cleangen.Params(normalize(t, source)[0]), got.Params) {
			t.Error("Params")
		}
	}
}

func TestProcErrors(t *testing.T) {
	sum := func(n int) string { return "x" + strings.Repeat(" + x", n) }
	eight := "int a, int b, int c, int d, int e, int h, int i, int x"
	wide := "if x { " + sum(30) + " } else { x }"
	for source, want := range map[string]api.Errno{
		"proc f(int x) int { " + sum(37) + " }":                             api.OK,
		"proc f(int x) int { " + sum(60) + " }":                             api.ErrDepth,
		"proc f(int a, int b, int c, int d, int e, int h, int x) int { x }": api.OK,
		"proc f(" + eight + ") int { x }":                                   api.ErrFull,
		"proc f(" + eight + ") int { " + sum(60) + " }":                     api.ErrDepth,
		"proc f(" + eight + ") int { f(a, b, c, d, e, h, i, x) }":           api.ErrFull,
		"proc f(int x) int { " + wide + " }":                                api.OK,
	} {
		p, e := cleangen.Proc(normalize(t, source)[0])
		if e != want || e != api.OK && (p.Name != "" || len(p.Params) != 0 || p.Body.Kind != 0) {
			t.Errorf("%.60q: %d", source, e)
		}
		if e == api.OK && (ast.Depth(p.Body) > api.MaxDepth || ast.Size(p.Body) > api.MaxNodes || !ast.IsBlock(p.Body)) {
			t.Errorf("%.60q: not valid", source)
		}
	}
	for _, op := range []byte{0, api.FNum, api.FVar, api.FOp, api.FIf, api.FLet, api.FCall, api.FCons, api.FHead, api.FTail, api.FNull} {
		for _, list := range []bool{false, true} {
			f := anf.Func{List: list, Body: []anf.Bind{{Op: op, List: list, Num: -7}}}
			cleangen.Compute(f, func(name string) (string, []string) { return "", nil })
			cleangen.Proc(f)
		}
	}
}

func TestProceduresComputeTheFunctions(t *testing.T) {
	lib, _, _ := funtext.Parse(functions.Text)
	procs := listlib.Procs()
	all := normalize(t, functions.Text)
	for _, f := range all {
		p, e := cleangen.Proc(f)
		if e != api.OK {
			t.Fatal(f.Name, e)
		}
		procs = append(procs, p)
	}
	for _, c := range functions.Calls() {
		f := all[slices.IndexFunc(all, func(f anf.Func) bool { return f.Name == c.Name })]
		params := cleangen.Params(f)
		call := build.Node(api.Call)
		call.Name = c.Name
		s := api.State{In: []int{5}, Out: []int{6}}
		for i, p := range params {
			call.Kids = append(call.Kids, build.Ref(p.Name))
			s.Cells = append(s.Cells, nil)
			if i < len(c.Args) {
				s.Cells[i] = cell(c.Args[i])
			} else if p.Kind == api.Int {
				s.Cells[i] = []int{0}
			}
		}
		program := api.Program{Vars: params, Procs: procs, Main: build.Block(call)}
		if !checker.OK(program) {
			t.Fatal(c.Name, "is not accepted")
		}
		want, e := funeval.Call(lib, c.Name, c.Args, much)
		r := interp.Forward(program, s, much)
		if e != r.Err {
			t.Fatal(c, r.Err, e)
		}
		if e != api.OK {
			continue
		}
		end := state.Clone(s)
		end.Cells[len(params)-1] = cell(want)
		if !state.Equal(r.State, end) {
			t.Fatal(c, r.State)
		}
		if back := interp.Backward(program, r.State, much); back.Err != api.OK || !state.Equal(back.State, s) {
			t.Fatal(c, back)
		}
	}
}

// cell returns the contents of a variable with a value.
func cell(v api.Value) []int {
	if !v.List {
		return []int{v.N}
	}
	l := slices.Clone(v.L)
	slices.Reverse(l)
	return l
}
