package exprgen_test

import (
	"slices"
	"strings"
	"testing"

	"backstep/api"
	"backstep/asm"
	"backstep/ast"
	"backstep/cpu"
	"backstep/eval"
	"backstep/exprgen"
	"backstep/internal/sample"
	"backstep/isa"
	"backstep/layout"
	"backstep/parser"
)

func expr(t *testing.T, s string) api.Node {
	t.Helper()
	n, _, e := parser.Expr(s)
	if e != api.OK {
		t.Fatal(s, e)
	}
	return n
}

var frame = layout.Frame{
	Slots:  []layout.Slot{{Name: "x", Kind: api.Int, At: 2}, {Name: "y", Kind: api.Int, At: 0}, {Name: "a", Kind: api.Array, Len: 3, At: 3}, {Name: "s", Kind: api.Stack, At: 1}, {Name: "e", Kind: api.Stack, At: 2}},
	Cells:  6,
	Stacks: 2,
}

const fp, sb = 4, 1

// load returns an image with the code, and a machine whose frame at fp and sb has contents.
func load(t *testing.T, code []api.Instr) (api.Image, *api.Machine) {
	t.Helper()
	im := api.Image{Code: code, Mem: fp + frame.Cells + api.MaxDepth, Stacks: 1 + sb + frame.Stacks}
	m, e := cpu.New(im, nil)
	if e != api.OK {
		t.Fatal(e)
	}
	m.FP, m.SB = fp, sb
	copy(m.M, []int{91, 92, 93, 94, -4, 95, 3, 5, 7, 0})
	m.S = [][]int{{50}, {96}, {1, 2, 9}, {}}
	for r := range m.R {
		m.R[r] = 60 + r
	}
	m.R[1], m.R[2], m.R[3] = 0, 0, 0
	return im, &m
}

func lookup(name string) ([]int, bool) {
	cell, ok := map[string][]int{"x": {3}, "y": {-4}, "a": {5, 7, 0}, "s": {1, 2, 9}, "e": {}}[name]
	return cell, ok
}

func run(im api.Image, m *api.Machine) api.Errno {
	for m.PC < len(im.Code) {
		if e := cpu.Step(im, m); e != api.OK {
			return e
		}
	}
	return api.OK
}

func check(t *testing.T, n api.Node) {
	t.Helper()
	code, e := exprgen.Compute(n, frame)
	if e != api.OK {
		t.Fatal(n, e)
	}
	im, m := load(t, code)
	for _, i := range code {
		if _, ok := isa.Target(i); ok || !isa.Valid(i) {
			t.Fatal(i)
		}
	}
	want, failure := eval.Expr(n, lookup)
	before := cpu.Clone(m)
	e = run(im, m)
	if e != failure {
		t.Fatalf("%v: %d, not %d", n, e, failure)
	}
	if e != api.OK {
		return
	}
	if s := m.S[0]; len(s) != 1+ast.Size(n) || s[len(s)-1] != want || s[0] != 50 {
		t.Fatalf("%v: %v, not %d", n, s, want)
	}
	computed := cpu.Clone(m)
	computed.S[0], computed.PC = before.S[0], 0
	if !cpu.Equal(computed, before) {
		t.Fatalf("%v: %v", n, *m)
	}
	im.Code = exprgen.Uncompute(code)
	m.PC = 0
	if e := run(im, m); e != api.OK || len(m.S[0]) != 1 {
		t.Fatalf("%v uncomputed: %d", n, e)
	}
}

func TestExample(t *testing.T) {
	example, _, _ := asm.Parse(strings.Join([]string{"mem r1 2", "xor r2 r1", "mem r1 2", "push r2 0", "pop r1 0", "mem r1 6", "xori r1 1", "push r1 0", "pop r2 0", "mem r1 6", "calc r3 r1 r2 +", "push r1 0", "push r2 0", "push r3 0", ""}, "\n"))
	code, e := exprgen.Compute(expr(t, "x + 1"), frame)
	if e != api.OK {
		t.Fatal(e)
	}
	imA, a := load(t, example)
	imB, b := load(t, code)
	if run(imA, a) != api.OK || run(imB, b) != api.OK {
		t.Fatal("the code does not run to its end")
	}
	last := len(a.S[0]) - 1
	if len(b.S[0]) != last+1 || a.S[0][last] != b.S[0][last] {
		t.Error("the code behaves differently from the example", a.S[0], b.S[0])
	}
}

func TestCompute(t *testing.T) {
	for _, s := range []string{
		"0", "9223372036854775807", "x", "y", "a[0]", "a[x - 2]", "a[2]", "top(s)", "size(s)", "size(e)", "-x", "!x", "!(x - 3)", "--y", "-(0 - 9223372036854775807 - 1)",
		"x + y * 2 - a[1]", "x - (y - (x - (y - 1)))", "a[a[0] - 4] + a[a[2]]", "x / y", "y % x", "x && y || !x", "(x ^ 5) & (y | 6)", "x < y", "x >= 3", "x == 3", "x != 3", "x <= y", "x > y", "top(s) * size(s)",
		"x / 0", "x % (x - 3)", "a[3]", "a[y]", "top(e)", "1 / 0 + top(e)", "top(e) + 1 / 0", "0 && 1 / 0", "a[1 / 0]", "-top(e)", "!(1 % 0)", "x + a[9]",
	} {
		check(t, expr(t, s))
	}
	deep := expr(t, "x")
	for range 77 {
		deep = api.Node{Kind: api.Sub, Kids: []api.Node{expr(t, "y"), deep}}
	}
	check(t, deep)
}

func TestExpressionsOfPrograms(t *testing.T) {
	visible := map[string]byte{"x": api.Var, "y": api.Var, "a": api.Item, "s": api.Top}
	count := 0
	for seed := range 400 {
	nodes:
		for _, n := range ast.Walk(sample.Program(seed).Main) {
			if !ast.IsExpr(n) {
				continue
			}
			for _, m := range ast.Walk(n) {
				if kind, ok := visible[m.Name]; m.Name != "" && (!ok || kind != m.Kind && m.Kind != api.Size) {
					continue nodes
				}
			}
			count++
			check(t, n)
		}
	}
	if count < 300 {
		t.Error(count)
	}
}

func TestErrors(t *testing.T) {
	full := frame
	full.Cells = api.MaxCells - 2
	huge := frame
	huge.Cells = 1<<63 - 1
	for _, c := range []struct {
		n    api.Node
		f    layout.Frame
		want api.Errno
	}{
		{api.Node{}, layout.Frame{}, api.ErrForm}, {api.Node{Kind: api.Add, Kids: []api.Node{expr(t, "z")}}, frame, api.ErrForm}, {api.Node{Kind: api.Block}, frame, api.ErrForm},
		{expr(t, "z"), frame, api.ErrName}, {expr(t, "x"), layout.Frame{}, api.ErrName}, {expr(t, "a"), frame, api.ErrName}, {expr(t, "x[0]"), frame, api.ErrName}, {expr(t, "top(x)"), frame, api.ErrName}, {expr(t, "size(a)"), frame, api.ErrName}, {expr(t, "s"), frame, api.ErrName},
		{expr(t, "1 + -(2 * z)"), full, api.ErrName}, {expr(t, "x + 1"), full, api.OK}, {expr(t, "x + -y"), full, api.ErrFull}, {expr(t, "1"), huge, api.ErrFull},
	} {
		code, e := exprgen.Compute(c.n, c.f)
		if e != c.want || e != api.OK && len(code) != 0 {
			t.Error(c.n, e)
		}
		code, e = exprgen.With(c.n, c.f, nil)
		if e != c.want || e != api.OK && len(code) != 0 {
			t.Error(c.n, e)
		}
	}
}

func TestParkingCells(t *testing.T) {
	for s, want := range map[string]int{"x + y - x + y - x": 1, "x - (y - (x - y))": 3, "(x - y) - (x - (y - x))": 3, "a[x - y] - a[y - (x - x)]": 3, "x": 0} {
		code, _ := exprgen.Compute(expr(t, s), frame)
		cells := map[int]bool{}
		for _, i := range code {
			if i.Op == api.OpMem && i.B >= frame.Cells {
				cells[i.B] = true
			}
		}
		if len(cells) != want || want > 0 && !cells[frame.Cells] {
			t.Errorf("%q: %v", s, cells)
		}
	}
}

func TestUncompute(t *testing.T) {
	l := []api.Instr{{Op: api.OpAdd, A: 1, B: 2}, {Op: api.OpPush, A: 1, B: 3}, {Op: api.OpRead, A: 1}, {Op: api.OpHalt}}
	want := []api.Instr{{Op: api.OpHalt}, {Op: api.OpUnread, A: 1}, {Op: api.OpPop, A: 1, B: 3}, {Op: api.OpSub, A: 1, B: 2}}
	if got := exprgen.Uncompute(l); !slices.Equal(got, want) || l[0].Op != api.OpAdd {
		t.Error(got)
	}
	if len(exprgen.Uncompute(nil)) != 0 {
		t.Error("no code")
	}
}

func TestWith(t *testing.T) {
	n := expr(t, "x * 2")
	compute, _ := exprgen.Compute(n, frame)
	use := []api.Instr{{Op: api.OpAdd, A: 9, B: 4}}
	code, e := exprgen.With(n, frame, use)
	want := slices.Concat(compute, []api.Instr{{Op: api.OpPop, A: 4}}, use, []api.Instr{{Op: api.OpPush, A: 4}}, exprgen.Uncompute(compute))
	if e != api.OK || !slices.Equal(code, want) {
		t.Error(code, e)
	}
	inner, _ := exprgen.With(expr(t, "a[1]"), frame, use)
	nested, _ := exprgen.With(n, frame, slices.Concat([]api.Instr{{Op: api.OpSwap, A: 4, B: 5}}, inner, []api.Instr{{Op: api.OpSwap, A: 4, B: 5}}))
	im, m := load(t, nested)
	m.R[4], m.R[5] = 0, 0
	before := cpu.Clone(m)
	if e := run(im, m); e != api.OK {
		t.Fatal(e)
	}
	before.R[9] += 7
	before.PC = len(nested)
	if !cpu.Equal(m, before) {
		t.Error(*m)
	}
}
