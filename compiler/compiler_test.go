package compiler_test

import (
	"slices"
	"strings"
	"testing"

	"backstep/api"
	"backstep/compiler"
	"backstep/cpu"
	"backstep/image"
	"backstep/internal/sample"
	"backstep/interp"
	"backstep/linker"
	"backstep/object"
	"backstep/parser"
	"backstep/state"
)

const much = 1 << 20

func parse(t *testing.T, s string) api.Program {
	t.Helper()
	p, pos, e := parser.Program(s)
	if e != api.OK {
		t.Fatalf("%q: %d, %d", s, pos, e)
	}
	return p
}

func TestProgram(t *testing.T) {
	p := parse(t, "int x proc f(int a) { a += 1; } proc g(int a) { call f(a); } main { call g(x); }")
	im, e := compiler.Program(p)
	main, _ := object.Main(p)
	f, _ := object.Proc(p, 0)
	g, _ := object.Proc(p, 1)
	want, _, _ := linker.Link(main, f, g)
	if e != api.OK || !slices.Equal(im.Code, want.Code) || im.Mem != want.Mem || im.Stacks != want.Stacks || !image.Valid(im) {
		t.Error(im, e)
	}
}

func TestProgramErrors(t *testing.T) {
	params := "array a[16], array b[16], array c[16], array d[16], array e[16], array f[16], array h[16], array i[16]"
	calls := func(n int) string { return strings.Repeat("call g(a, b, c, d, e, f, h, i); ", n) }
	vars := "array a[16] array b[16] array c[16] array d[16] array e[16] array f[16] array h[16] array i[16] "
	procs := "proc g(" + params + ") { } "
	locals := ""
	for _, c := range "abcdefghijklmnopqrstuvwxyz" {
		locals += "local k" + string(c) + " = 0 { } delocal 0; "
	}
	for s, want := range map[string]api.Errno{
		"int x main { x := y; }":         api.ErrForm,
		"int x main { x += x; x := 1; }": api.ErrAlias,
		"int x proc f() { local k = 1 { k := 2; } delocal 1; } main { x += x; }":                                api.ErrLossy,
		vars + procs + "main { " + calls(85) + "}":                                                              api.ErrFull,
		vars + procs + "main { " + calls(84) + "}":                                                              api.OK,
		vars + procs + "proc r(" + params + ") { " + calls(43) + "} main { " + calls(43) + "}":                  api.ErrFull,
		vars + procs + "proc r(" + params + ") { " + calls(42) + "} main { " + calls(42) + "}":                  api.OK,
		"proc f(" + params + ") { } main { }":                                                                   api.OK,
		"proc f(" + params + ") { " + locals + " } main { }":                                                    api.OK,
		"proc f(" + params + ") { " + locals + strings.ReplaceAll(locals, "local k", "local m") + " } main { }": api.ErrFull,
	} {
		im, e := compiler.Program(parse(t, s))
		if e != want || e != api.OK && len(im.Code) != 0 {
			t.Errorf("%.60q: %d", s, e)
		}
		if e == api.OK {
			continue
		}
		initial := api.State{Cells: [][]int{{5}}}
		if s, n, e := compiler.Forward(parse(t, s), initial, 0); e != want || n != 0 || !state.Equal(s, initial) {
			t.Error(s, n, e)
		}
	}
	if _, e := compiler.Program(api.Program{}); e != api.ErrForm {
		t.Error(e)
	}
}

func TestLoadAndUnload(t *testing.T) {
	p := parse(t, "int x stack s array a[2] stack u main { local k = 1 { local stack t { }; } delocal 1; }")
	im, _ := compiler.Program(p)
	s := api.State{Cells: [][]int{{5}, {1, 2}, {7, 8}, {3}}, In: []int{4}, Out: []int{6}}
	m, e := compiler.Load(p, im, s)
	if e != api.OK || !cpu.Fits(im, &m) || m.PC != 0 || m.Dir != 1 || !compiler.Clean(p, m) {
		t.Fatal(m, e)
	}
	if !slices.Equal(m.M[:4], []int{5, 7, 8, 0}) || !slices.Equal(m.S[1], []int{1, 2}) || !slices.Equal(m.S[2], []int{3}) || !slices.Equal(m.In, s.In) || !slices.Equal(m.Out, s.Out) {
		t.Error(m)
	}
	got, e := compiler.Unload(p, m)
	if e != api.OK || !state.Equal(got, s) {
		t.Error(got, e)
	}
	got.Cells[1][0], got.Cells[0][0], got.In[0] = 99, 99, 99
	m.M[1], m.S[2][0], m.Out[0] = 77, 77, 77
	if s.Cells[2][0] != 7 || s.Cells[3][0] != 3 || s.Out[0] != 6 || m.S[1][0] != 1 || m.M[0] != 5 || m.In[0] != 4 {
		t.Error("results share memory with arguments")
	}
	other := parse(t, "int x main { }")
	small, _ := compiler.Program(other)
	for i, c := range []struct {
		p    api.Program
		im   api.Image
		s    api.State
		want api.Errno
	}{
		{api.Program{}, im, s, api.ErrForm}, {parse(t, "int x main { y += 1; }"), im, s, api.ErrForm}, {p, api.Image{}, api.State{}, api.ErrForm}, {p, im, api.State{}, api.ErrState}, {p, small, api.State{}, api.ErrState},
		{p, small, s, api.ErrRange}, {p, api.Image{Mem: 5, Stacks: 3}, s, api.ErrRange}, {p, api.Image{Mem: 3, Stacks: 4}, s, api.ErrRange}, {p, api.Image{Mem: 4, Stacks: 4}, s, api.OK},
	} {
		if m, e := compiler.Load(c.p, c.im, c.s); e != c.want || e != api.OK && m.Dir != 0 {
			t.Errorf("case %d: %d", i, e)
		}
	}
}

func TestUnloadErrorsAndClean(t *testing.T) {
	p := parse(t, "int x stack s main { local k = 1 { local stack t { }; } delocal 1; }")
	fresh := func() api.Machine {
		return api.Machine{Dir: 1, M: []int{5, 0, 0}, S: [][]int{{}, {1}, {}, {}}}
	}
	for title, c := range map[string]struct {
		change func(m *api.Machine)
		e      api.Errno
		clean  bool
	}{
		"unchanged":     {func(m *api.Machine) {}, api.OK, true},
		"backward":      {func(m *api.Machine) { m.Dir, m.PC = -1, 7 }, api.OK, true},
		"tapes":         {func(m *api.Machine) { m.In, m.Out = []int{1}, []int{2} }, api.OK, true},
		"register":      {func(m *api.Machine) { m.R[15] = 1 }, api.OK, false},
		"scratch":       {func(m *api.Machine) { m.S[0] = []int{0} }, api.OK, false},
		"calls":         {func(m *api.Machine) { m.Calls = []api.Activation{{}} }, api.OK, false},
		"FP":            {func(m *api.Machine) { m.FP = 1 }, api.OK, false},
		"SB":            {func(m *api.Machine) { m.SB = 1 }, api.OK, false},
		"local":         {func(m *api.Machine) { m.M[1] = 1 }, api.OK, false},
		"further cell":  {func(m *api.Machine) { m.M[2] = 1 }, api.OK, false},
		"local stack":   {func(m *api.Machine) { m.S[2] = []int{0} }, api.OK, false},
		"further stack": {func(m *api.Machine) { m.S[3] = []int{0} }, api.OK, false},
		"exact size":    {func(m *api.Machine) { m.M, m.S = m.M[:2], m.S[:3] }, api.OK, true},
		"few cells":     {func(m *api.Machine) { m.M = m.M[:1] }, api.ErrRange, false},
		"few stacks":    {func(m *api.Machine) { m.S = m.S[:2] }, api.ErrRange, false},
		"no stacks":     {func(m *api.Machine) { m.S = nil }, api.ErrRange, false},
		"long stack":    {func(m *api.Machine) { m.S[1] = make([]int, 1001) }, api.ErrState, true},
		"long input":    {func(m *api.Machine) { m.In = make([]int, 4097) }, api.ErrState, true},
	} {
		m := fresh()
		c.change(&m)
		s, e := compiler.Unload(p, m)
		if e != c.e || e != api.OK && !state.Equal(s, api.State{}) || compiler.Clean(p, m) != c.clean {
			t.Errorf("%s: %v, %d, %v", title, s, e, compiler.Clean(p, m))
		}
		for _, bad := range []api.Program{{}, parse(t, "int x main { y += 1; }")} {
			if _, e := compiler.Unload(bad, m); e != api.ErrForm || compiler.Clean(bad, m) {
				t.Error(title, e)
			}
		}
	}
	m := fresh()
	compiler.Clean(p, m)
	if m.M[0] != 5 || len(m.S[1]) != 1 {
		t.Error("Clean changes the machine")
	}
}

func TestExample(t *testing.T) {
	p := parse(t, "int x main { x += 1; }")
	s, n, e := compiler.Forward(p, api.State{Cells: [][]int{{4}}}, much)
	if e != api.OK || s.Cells[0][0] != 5 || n == 0 {
		t.Error(s, n, e)
	}
	back, k, e := compiler.Backward(p, s, n)
	if e != api.OK || back.Cells[0][0] != 4 || k != n {
		t.Error(back, k, e)
	}
	for fuel := -1; fuel < n; fuel++ {
		initial := api.State{Cells: [][]int{{4}}}
		if s, k, e := compiler.Forward(p, initial, fuel); e != api.ErrFuel || k != 0 || !state.Equal(s, initial) {
			t.Error(s, k, e)
		}
	}
	if s, _, e := compiler.Forward(p, api.State{}, much); e != api.ErrState || len(s.Cells) != 0 {
		t.Error(e)
	}
	if _, _, e := compiler.Backward(p, api.State{}, much); e != api.ErrState {
		t.Error(e)
	}
	empty := parse(t, "main { }")
	if _, n, e := compiler.Forward(empty, api.State{}, 0); n != 0 || e != api.OK {
		t.Error(n, e)
	}
}

func TestCallsAgreeWithTheInterpreter(t *testing.T) {
	p := parse(t, "int x stack s proc f(int a, stack r) { if a > 0 { a -= 1; local k = a { push k, r; k += a; } delocal a; call f(a, r); a += 1; } else { } fi a > 0; } main { call f(x, s); uncall f(x, s); }")
	for x := range 102 {
		compare(t, x, p, api.State{Cells: [][]int{{x}, {}}}, 1<<30)
	}
}

// compare runs a program in both directions.
func compare(t *testing.T, seed int, p api.Program, s api.State, fuel int) {
	t.Helper()
	type run func(api.Program, api.State, int) (api.State, int, api.Errno)
	for dir, runs := range [][2]run{{compiler.Forward, compiler.Backward}, {compiler.Backward, compiler.Forward}} {
		want := interp.Forward(p, s, 3000)
		if dir == 1 {
			want = interp.Backward(p, s, 3000)
		}
		if want.Err == api.ErrFuel {
			continue
		}
		got, n, e := runs[0](p, s, fuel)
		if e == api.ErrFuel {
			continue
		}
		if e != want.Err || !state.Equal(got, want.State) {
			t.Fatalf("program %d, direction %d: %v, %d, not %v", seed, dir, got, e, want)
		}
		if e != api.OK {
			continue
		}
		back, k, e := runs[1](p, got, n)
		if e != api.OK || k != n || !state.Equal(back, s) {
			t.Fatalf("program %d, direction %d, back: %v, %d, %d", seed, dir, back, k, e)
		}
	}
}

func TestRandomProgramsAgreeWithTheInterpreter(t *testing.T) {
	for seed := range 1000 {
		compare(t, seed, sample.Program(seed), sample.State(seed), 50000)
	}
}

func TestMachinesEndClean(t *testing.T) {
	clean := 0
	for seed := range 300 {
		p, s := sample.Program(seed), sample.State(seed)
		im, _ := compiler.Program(p)
		m, _ := compiler.Load(p, im, s)
		halt, _ := image.Halt(im)
		for steps := 0; steps < 50000 && (m.PC != halt || len(m.Calls) > 0 || m.Dir != 1); steps++ {
			if cpu.Step(im, &m) != api.OK {
				break
			}
		}
		if m.PC == halt && len(m.Calls) == 0 && m.Dir == 1 {
			clean++
			if !compiler.Clean(p, m) {
				t.Fatal(seed, m)
			}
		}
	}
	if clean < 30 {
		t.Error(clean)
	}
}
