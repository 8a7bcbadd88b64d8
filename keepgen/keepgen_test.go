package keepgen_test

import (
	"slices"
	"strings"
	"testing"

	"backstep/anf"
	"backstep/api"
	"backstep/ast"
	"backstep/build"
	"backstep/checker"
	"backstep/cleangen"
	"backstep/funeval"
	"backstep/funtext"
	"backstep/internal/functions"
	"backstep/interp"
	"backstep/keepgen"
	"backstep/listlib"
	"backstep/parser"
	"backstep/state"
)

const much = 1 << 22

func normalize(t *testing.T, s string) []anf.Func {
	t.Helper()
	lib, pos, e := funtext.Parse(s)
	if e != api.OK {
		t.Fatalf("%.80q: %d, %d", s, pos, e)
	}
	l, e := anf.Normalize(lib)
	if e != api.OK {
		t.Fatal(e)
	}
	return l
}

// same compares a procedure with the first one of a program text.
func same(t *testing.T, got api.Proc, text string) bool {
	t.Helper()
	p, pos, e := parser.Program(text + " main { }")
	if e != api.OK {
		t.Fatal(text, pos, e)
	}
	want := p.Procs[0]
	return got.Name == want.Name && slices.Equal(got.Params, want.Params) && ast.Equal(got.Body, want.Body)
}

func TestProc(t *testing.T) {
	if keepgen.Name("fib") != "fib1" || keepgen.Name("") != "1" {
		t.Error("Name")
	}
	square := normalize(t, "proc f(int x) int { x * x }")[0]
	got, e := keepgen.Proc(square, nil)
	if e != api.OK || !same(t, got, "proc f1(int x, int out, stack g) { local t0 = 0 { t0 += x * x; out ^= t0; push t0, g; } delocal 0; }") {
		t.Error(got, e)
	}
	if ints, lists := keepgen.Garbage(square); ints != 1 || lists != 0 {
		t.Error(ints, lists)
	}
	f := normalize(t, "proc f(int x, stack l) stack { push(h(x), f(x, l)) } proc h(int x) int { x }")[0]
	locals := "local t0 = 0 { local t1 = 0 { local t2 = 0 { local stack t3 { local stack t4 { local stack t5 { "
	ends := " }; }; }; } delocal 0; } delocal 0; } delocal 0; }"
	kept := []string{"none", "f", "f"}
	got, e = keepgen.Proc(f, kept)
	if e != api.OK || !same(t, got, "proc f1(int x, stack l, stack out, stack g) { "+locals+"t0 += x; call h(t0, t1); t2 += x; call lcopy(l, t3); call f1(t2, t3, t4, g); call lcopy(t4, t5); local h0 = t1 { push h0, t5; } delocal 0; call lcopy(t5, out); push t0, g; push t1, g; push t2, g; call lspill(t3, g); call lspill(t4, g); call lspill(t5, g);"+ends) {
		t.Error(got, e)
	}
	if ints, lists := keepgen.Garbage(f); ints != 3 || lists != 3 {
		t.Error(ints, lists)
	}
	got, e = keepgen.Clean(f, []string{"h"})
	if e != api.OK || !same(t, got, "proc f(int x, stack l, stack out) { "+locals+"local stack g { t0 += x; call h1(t0, t1, g); t2 += x; call lcopy(l, t3); call f(t2, t3, t4); call lcopy(t4, t5); local h0 = t1 { push h0, t5; } delocal 0; call lcopy(t5, out); local h0 = 0 { pop h0, t5; } delocal t1; uncall lcopy(t4, t5); uncall f(t2, t3, t4); uncall lcopy(l, t3); t2 -= x; uncall h1(t0, t1, g); t0 -= x; };"+ends) {
		t.Error(got, e)
	}
	want, _ := cleangen.Proc(f)
	for _, kept := range [][]string{nil, {"none", "ff"}} {
		got, e = keepgen.Clean(f, kept)
		if e != api.OK || got.Name != "f" || !ast.Equal(got.Body, want.Body) {
			t.Error(kept, got, e)
		}
	}
	branch := normalize(t, "proc f(int x) int { if x { 1 } else { if x { f(x - 1) } else { 2 } } }")[0]
	got, _ = keepgen.Clean(branch, []string{"f"})
	stacks := 0
	for _, n := range ast.Walk(got.Body) {
		if n.Kind == api.LocalStack && n.Name == "g" {
			stacks++
		}
	}
	if stacks != 1 {
		t.Error("calls in branches count", stacks)
	}
}

func TestErrors(t *testing.T) {
	sum := func(n int) string { return "x" + strings.Repeat(" + x", n) }
	for source, want := range map[string][2]api.Errno{
		"proc f(int x) int { " + sum(38) + " }":                                                            {api.OK, api.OK},
		"proc f(int x) int { " + sum(60) + " }":                                                            {api.ErrDepth, api.ErrDepth},
		"proc f(int a, int b, int c, int d, int e, int x) int { x }":                                       {api.OK, api.OK},
		"proc f(int a, int b, int c, int d, int e, int h, int x) int { " + sum(60) + " }":                  {api.ErrFull, api.ErrDepth},
		"proc f(int a, int b, int c, int d, int e, int h, int x) int { x }":                                {api.ErrFull, api.OK},
		"proc f(int a, int b, int c, int d, int e, int h, int i, int x) int { " + sum(60) + " }":           {api.ErrFull, api.ErrFull},
		"proc f(int a, int b, int c, int d, int e, int h, int i, int x) int { f(a, b, c, d, e, h, i, x) }": {api.ErrFull, api.ErrFull},
	} {
		f := normalize(t, source)[0]
		p, e := keepgen.Proc(f, []string{"f"})
		q, e2 := keepgen.Clean(f, []string{"f"})
		if e != want[0] || e2 != want[1] || e != api.OK && (p.Name != "" || len(p.Params) != 0) || e2 != api.OK && (q.Name != "" || len(q.Params) != 0) {
			t.Errorf("%.90q: %d, %d", source, e, e2)
		}
	}
	for _, op := range []byte{0, api.FVar, api.FOp, api.FIf, api.FCall, api.FCons} {
		f := anf.Func{Body: []anf.Bind{{Op: op}}, Temps: []api.Param{{}}}
		keepgen.Proc(f, []string{""})
		keepgen.Clean(f, []string{""})
	}
}

// cell returns the contents of a variable with a value.
func cell(v api.Value) []int {
	if !v.List {
		return []int{v.N}
	}
	l := slices.Clone(v.L)
	slices.Reverse(l)
	return l
}

// program calls a procedure with its parameters as global variables.
func program(proc string, params []api.VarDecl, procs []api.Proc) api.Program {
	call := api.Node{Kind: api.Call, Name: proc}
	for _, p := range params {
		call.Kids = append(call.Kids, build.Ref(p.Name))
	}
	return api.Program{Vars: params, Procs: procs, Main: build.Block(call)}
}

func TestProceduresComputeTheFunctions(t *testing.T) {
	lib, _, _ := funtext.Parse(functions.Text)
	all := normalize(t, functions.Text)
	var names []string
	for _, f := range all {
		names = append(names, f.Name)
	}
	for mask := range 40 {
		var kept []string
		for i, name := range names {
			if (mask*37+i*i)%3 == 0 || mask == 1 {
				kept = append(kept, name)
			}
		}
		if mask == 0 {
			kept = nil
		}
		procs := listlib.Procs()
		for _, f := range all {
			p, e := keepgen.Clean(f, kept)
			if e != api.OK {
				t.Fatal(f.Name, e)
			}
			procs = append(procs, p)
			if slices.Contains(kept, f.Name) {
				p, e := keepgen.Proc(f, kept)
				if e != api.OK {
					t.Fatal(f.Name, e)
				}
				procs = append(procs, p)
			}
		}
		for _, c := range functions.Calls() {
			run(t, lib, all, kept, procs, c)
		}
	}
}

// run calls the clean procedure of a function, and its kept one if there is one.
func run(t *testing.T, lib []api.Func, all []anf.Func, kept []string, procs []api.Proc, c functions.Call) {
	t.Helper()
	f := all[slices.IndexFunc(all, func(f anf.Func) bool { return f.Name == c.Name })]
	params := cleangen.Params(f)
	var s api.State
	for _, arg := range c.Args {
		s.Cells = append(s.Cells, cell(arg))
	}
	if f.List {
		s.Cells = append(s.Cells, nil)
	} else {
		s.Cells = append(s.Cells, []int{0})
	}
	want, e := funeval.Call(lib, c.Name, c.Args, much)
	p := program(f.Name, params, procs)
	if !checker.OK(p) {
		t.Fatal("not accepted", kept)
	}
	r := interp.Forward(p, s, much)
	end := state.Clone(s)
	if e == api.OK {
		end.Cells[len(c.Args)] = cell(want)
	}
	if r.Err != e || !state.Equal(r.State, end) {
		t.Fatal(c, kept, r, e)
	}
	if !slices.Contains(kept, f.Name) {
		return
	}
	p = program(keepgen.Name(f.Name), append(params, build.Decl("g", true)), procs)
	s.Cells, end.Cells = append(s.Cells, []int{44}), append(end.Cells, []int{44})
	r = interp.Forward(p, s, much)
	if r.Err != e {
		t.Fatal(c, kept, r, e)
	}
	if e != api.OK {
		return
	}
	last := len(s.Cells) - 1
	if back := interp.Backward(p, r.State, much); back.Err != api.OK || !state.Equal(back.State, s) {
		t.Fatal(c, kept, back)
	}
	if r.State.Cells[last][0] != 44 {
		t.Fatal("the old garbage", r.State)
	}
	r.State.Cells[last] = []int{44}
	if !state.Equal(r.State, end) {
		t.Fatal(c, kept, r.State)
	}
}

func TestAmountOfGarbage(t *testing.T) {
	all := normalize(t, "proc f(int x, stack l) int { x + top(pop(push(x, l))) }")
	p, _ := keepgen.Proc(all[0], []string{"f"})
	params := p.Params
	r := interp.Forward(program("f1", params, append(listlib.Procs(), p)), api.State{Cells: [][]int{{5}, {1, 2, 3}, {0}, {}}}, much)
	if r.Err != api.OK || len(r.State.Cells[3]) != 2+(4+1)+(3+1) {
		t.Error(r)
	}
}
