package bennett_test

import (
	"slices"
	"strings"
	"testing"

	"backstep/anf"
	"backstep/api"
	"backstep/ast"
	"backstep/bennett"
	"backstep/checker"
	"backstep/fun"
	"backstep/funeval"
	"backstep/funtext"
	"backstep/internal/functions"
	"backstep/interp"
	"backstep/keepgen"
	"backstep/listlib"
	"backstep/printer"
	"backstep/state"
)

const much = 1 << 22

func parse(t *testing.T, s string) []api.Func {
	t.Helper()
	lib, pos, e := funtext.Parse(s)
	if e != api.OK {
		t.Fatalf("%.80q: %d, %d", s, pos, e)
	}
	return lib
}

// same compares all fields of values.
func same(a, b api.Value) bool { return a.List == b.List && a.N == b.N && slices.Equal(a.L, b.L) }

func num(n int) api.Value     { return api.Value{N: n} }
func list(l ...int) api.Value { return api.Value{List: true, L: l} }

func TestExample(t *testing.T) {
	lib := parse(t, "proc inc(int x) int { x + 1 }")
	p, e := bennett.Program(lib, "inc", nil)
	if e != api.OK || len(p.Procs) != 3 || p.Procs[0].Name != "lcopy" || p.Procs[1].Name != "lspill" || p.Procs[2].Name != "inc" {
		t.Fatal(p, e)
	}
	s, _ := printer.Program(p)
	if !strings.HasPrefix(s, "int x\nint out\nproc lcopy(") || !strings.HasSuffix(s, "main {\n\tcall inc(x, out);\n}\n") {
		t.Error(s)
	}
	if v, n, e := bennett.Run(lib, "inc", nil, []api.Value{num(41)}, much); v.N != 42 || v.List || n == 0 || e != api.OK {
		t.Error(v, n, e)
	}
}

func TestProgram(t *testing.T) {
	lib := parse(t, "proc a(int x, stack l) stack { b(l, x) } proc b(stack l, int x) stack { push(c(x), l) } proc c(int x) int { x }")
	all, _ := anf.Normalize(lib)
	kept := []string{"c", "a"}
	p, e := bennett.Program(lib, "a", kept)
	want := listlib.Procs()
	for _, f := range all {
		q, _ := keepgen.Clean(f, kept)
		want = append(want, q)
	}
	for _, i := range []int{0, 2} {
		q, _ := keepgen.Proc(all[i], kept)
		want = append(want, q)
	}
	vars := []api.VarDecl{{Name: "x", Kind: api.Int}, {Name: "l", Kind: api.Stack}, {Name: "out", Kind: api.Stack}}
	main := api.Node{Kind: api.Block, Kids: []api.Node{{Kind: api.Call, Name: "a", Kids: []api.Node{{Kind: api.Var, Name: "x"}, {Kind: api.Var, Name: "l"}, {Kind: api.Var, Name: "out"}}}}}
	if e != api.OK || !ast.Same(p, api.Program{Vars: vars, Procs: want, Main: main}) {
		t.Error(p, e)
	}
}

func TestProgramErrors(t *testing.T) {
	lib := parse(t, "proc f(int x) int { x } proc h(int x) int { f(x) }")
	long := "x" + strings.Repeat(" + x", 60)
	eight := "int a, int b, int c, int d, int e, int h, int i, int x"
	seven := "int a, int b, int c, int d, int e, int h, int x"
	for i, c := range []struct {
		lib  []api.Func
		name string
		kept []string
		want api.Errno
	}{
		{[]api.Func{{Name: "f"}}, "none", nil, api.ErrForm}, {lib, "none", []string{"f", "f"}, api.ErrNone}, {lib, "f", []string{"f", "f", "none"}, api.ErrNone}, {lib, "f", []string{"f", "h", "f"}, api.ErrTwice}, {lib, "f", []string{"h", "f"}, api.OK},
		{parse(t, "proc f(int x) int { x } proc d(int x) int { "+long+" } proc w("+eight+") int { x }"), "f", nil, api.ErrDepth},
		{parse(t, "proc f(int x) int { x } proc w("+eight+") int { x } proc d(int x) int { "+long+" }"), "f", nil, api.ErrFull},
		{parse(t, "proc f("+seven+") int { x }"), "f", nil, api.OK}, {parse(t, "proc f("+seven+") int { x }"), "f", []string{"f"}, api.ErrFull},
	} {
		p, e := bennett.Program(c.lib, c.name, c.kept)
		if e != c.want || e != api.OK && !ast.Same(p, api.Program{}) {
			t.Errorf("case %d: %d", i, e)
		}
		if v, n, e := bennett.Run(c.lib, c.name, c.kept, nil, much); c.want != api.OK && (e != c.want || n != 0 || v.N != 0) {
			t.Errorf("case %d: Run %d", i, e)
		}
	}
}

func TestInputAndOutput(t *testing.T) {
	lib := parse(t, "proc f(int x, stack l) stack { l } proc h(stack l) int { top(l) }")
	args := []api.Value{{N: 5, L: []int{7}}, {List: true, N: 9, L: []int{1, 2, 3}}}
	s, e := bennett.Input(lib, "f", args)
	if e != api.OK || !state.Equal(s, api.State{Cells: [][]int{{5}, {3, 2, 1}, {}}}) {
		t.Error(s, e)
	}
	s.Cells[1][0] = 77
	if args[1].L[2] != 3 {
		t.Error("Input shares memory")
	}
	if s, e := bennett.Input(lib, "h", []api.Value{list()}); e != api.OK || !state.Equal(s, api.State{Cells: [][]int{{}, {0}}}) {
		t.Error(s, e)
	}
	for i, c := range []struct {
		lib  []api.Func
		name string
		args []api.Value
		want api.Errno
	}{
		{[]api.Func{{Name: "f", Body: api.Node{Kind: api.FVar}}}, "none", nil, api.ErrForm}, {lib, "none", nil, api.ErrNone}, {lib, "f", nil, api.ErrType}, {lib, "f", []api.Value{list(), list()}, api.ErrType}, {lib, "f", []api.Value{num(1), num(1)}, api.ErrType},
		{lib, "f", []api.Value{num(1), list(make([]int, 1001)...)}, api.ErrFull}, {lib, "f", []api.Value{num(1), list(make([]int, 1000)...)}, api.OK}, {lib, "h", []api.Value{list(make([]int, 1001)...), num(1)}, api.ErrType},
	} {
		s, e := bennett.Input(c.lib, c.name, c.args)
		if e != c.want || e != api.OK && !state.Equal(s, api.State{}) {
			t.Errorf("case %d: %d", i, e)
		}
		if _, _, e := bennett.Run(c.lib, c.name, nil, c.args, much); c.want != api.OK && i > 0 && e != c.want {
			t.Errorf("case %d: Run %d", i, e)
		}
	}
	full := api.State{Cells: [][]int{{5}, {3, 2}, {8, 9}}, In: []int{1}}
	l, v, e := bennett.Output(lib, "f", full)
	if e != api.OK || !slices.EqualFunc(l, []api.Value{num(5), list(2, 3)}, same) || !same(v, list(9, 8)) {
		t.Error(l, v, e)
	}
	v.L[0], l[1].L[0] = 77, 77
	if full.Cells[2][1] != 9 || full.Cells[1][1] != 2 {
		t.Error("Output shares memory")
	}
	for i, c := range []struct {
		lib  []api.Func
		name string
		s    api.State
		want api.Errno
	}{{[]api.Func{{Name: "1"}}, "f", full, api.ErrForm}, {lib, "none", full, api.ErrNone}, {lib, "h", full, api.ErrState}, {lib, "f", api.State{}, api.ErrState}, {lib, "f", api.State{Cells: [][]int{{5}, {}, make([]int, 1001)}}, api.ErrState}} {
		if l, v, e := bennett.Output(c.lib, c.name, c.s); e != c.want || len(l) != 0 || v.List || len(v.L) != 0 {
			t.Errorf("case %d: %d", i, e)
		}
	}
}

func TestRuns(t *testing.T) {
	lib := parse(t, functions.Text)
	sets := [][]string{nil, {"len", "fib"}, {"rev", "app", "len"}, {"inc"}, {"inc", "sq", "len", "app", "fib", "rev", "mix", "poly", "pair", "const", "id"}}
	for _, kept := range sets {
		for _, c := range functions.Calls() {
			p, e := bennett.Program(lib, c.Name, kept)
			if e != api.OK || !checker.OK(p) {
				t.Fatal(c.Name, kept, e)
			}
			want, failure := funeval.Call(lib, c.Name, c.Args, much)
			got, steps, e := bennett.Run(lib, c.Name, kept, c.Args, much)
			if e != failure || !fun.Equal(got, want) || got.List != want.List || (steps > 0) != (e == api.OK) {
				t.Fatal(c, kept, got, e, want, failure)
			}
			if e != api.OK {
				continue
			}
			s, _ := bennett.Input(lib, c.Name, c.Args)
			r := interp.Forward(p, s, steps)
			args, _, _ := bennett.Output(lib, c.Name, r.State)
			if !slices.EqualFunc(args, c.Args, fun.Equal) || r.Steps != steps {
				t.Fatal("the arguments are unchanged", args)
			}
			if back := interp.Backward(p, r.State, steps); back.Err != api.OK || !state.Equal(back.State, s) {
				t.Fatal(c, back)
			}
			if _, _, e := bennett.Run(lib, c.Name, kept, c.Args, steps-1); e != api.ErrFuel {
				t.Fatal(c, e)
			}
			if again := interp.Forward(p, r.State, much); !want.List && (again.Err != api.OK || !state.Equal(again.State, s)) {
				t.Fatal("a second run clears out", again)
			}
		}
	}
}
