// Package examples tests the examples of the document as a whole, across the layers.
package examples

import (
	"slices"
	"testing"

	"backstep/api"
	"backstep/asm"
	"backstep/ast"
	"backstep/bennett"
	"backstep/checker"
	"backstep/compiler"
	"backstep/cpu"
	"backstep/debugger"
	"backstep/enumerate"
	"backstep/exercise"
	"backstep/fun"
	"backstep/funtext"
	"backstep/hint"
	"backstep/interp"
	"backstep/inverter"
	"backstep/parser"
	"backstep/state"
)

const much = 1 << 20

func parse(t *testing.T, s string) api.Program {
	t.Helper()
	p, pos, e := parser.Program(s)
	if e != api.OK {
		t.Fatalf("%q: %d, %d", s, pos, e)
	}
	return p
}

func cells(l ...[]int) api.State { return api.State{Cells: l} }

func TestBothDirections(t *testing.T) {
	p := parse(t, "int x main { x += 3; }")
	four, seven := cells([]int{4}), cells([]int{7})
	if r := interp.Forward(p, four, much); r.Err != api.OK || !state.Equal(r.State, seven) {
		t.Error(r)
	}
	if r := interp.Backward(p, seven, much); r.Err != api.OK || !state.Equal(r.State, four) {
		t.Error(r)
	}
}

func TestRejections(t *testing.T) {
	for s, want := range map[string]api.Errno{"int x main { x += x; }": api.ErrAlias, "int x main { x := 1; }": api.ErrLossy} {
		if l := checker.Check(parse(t, s)); len(l) != 1 || l[0].Err != want {
			t.Error(s, l)
		}
	}
}

func TestConditional(t *testing.T) {
	p := parse(t, "int x int y main { if x > 0 { y += 1; } else { } fi y > 0; }")
	if r := interp.Forward(p, cells([]int{1}, []int{0}), much); r.Err != api.OK || r.State.Cells[1][0] != 1 {
		t.Error(r)
	}
	bad := cells([]int{0}, []int{1})
	if r := interp.Forward(p, bad, much); r.Err != api.ErrAssert || !state.Equal(r.State, bad) {
		t.Error(r)
	}
}

func TestInverse(t *testing.T) {
	block, _, _ := parser.Block("x += 1; call f(x);")
	want, _, _ := parser.Block("uncall f(x); x -= 1;")
	if got, e := inverter.Stmt(block); e != api.OK || !ast.Equal(got, want) {
		t.Error(got, e)
	}
}

func TestLoop(t *testing.T) {
	p := parse(t, "int x main { from x == 0 { x += 1; } loop { } until x == 3; }")
	if r := interp.Forward(p, cells([]int{0}), much); r.Steps != 9 || r.State.Cells[0][0] != 3 {
		t.Error(r)
	}
	if r := interp.Backward(p, cells([]int{3}), much); r.Steps != 9 || r.State.Cells[0][0] != 0 {
		t.Error(r)
	}
}

func TestStack(t *testing.T) {
	p := parse(t, "int x stack s main { push x, s; }")
	if r := interp.Forward(p, cells([]int{5}, nil), much); !state.Equal(r.State, cells([]int{0}, []int{5})) {
		t.Error(r)
	}
	q := parse(t, "int x stack s main { pop x, s; }")
	if r := interp.Forward(q, cells([]int{1}, []int{5}), much); r.Err != api.ErrClear {
		t.Error(r)
	}
}

func TestCompiledSwap(t *testing.T) {
	im, e := compiler.Program(parse(t, "int x int y main { x <=> y; }"))
	want, _, _ := asm.Parse("mem r5 0\nmem r5 1\nmem r5 0\nhalt\n")
	if e != api.OK || !slices.Equal(im.Code, want) {
		t.Error(im.Code, e)
	}
}

func TestTimeTravel(t *testing.T) {
	p := parse(t, "int x int y main { from x == 0 { x += 1; } loop { y += x; } until x == 50; }")
	im, _ := compiler.Program(p)
	m, _ := compiler.Load(p, im, cells([]int{0}, []int{0}))
	d, e := debugger.New(im, m)
	if e != api.OK {
		t.Fatal(e)
	}
	d.Seek(1000)
	first := d.Machine()
	d.Seek(10)
	d.Seek(1000)
	if second := d.Machine(); d.Time() != 1000 || !cpu.Equal(&first, &second) {
		t.Error("machines at time 1,000 differ")
	}
}

func TestFunction(t *testing.T) {
	lib, _, e := funtext.Parse("proc len(stack xs) int { if !xs { 0 } else { 1 + len(pop(xs)) } }")
	if e != api.OK {
		t.Fatal(e)
	}
	xs := api.Value{List: true, L: []int{7, 8}}
	p, _ := bennett.Program(lib, "len", nil)
	s, _ := bennett.Input(lib, "len", []api.Value{xs})
	r := interp.Forward(p, s, much)
	args, v, _ := bennett.Output(lib, "len", r.State)
	if r.Err != api.OK || v.N != 2 || len(args) != 1 || !fun.Equal(args[0], xs) {
		t.Error(r, args, v)
	}
	inverse, _ := inverter.Program(p)
	if back := interp.Forward(inverse, r.State, much); back.Err != api.OK || !state.Equal(back.State, s) {
		t.Error(back)
	}
}

func TestHint(t *testing.T) {
	e := exercise.Exercise{Name: "add", Points: 1, Fuel: 10, Box: enumerate.Box{Value: 2}, Given: parse(t, "int x main { x += 2; }")}
	h, wrong, err := hint.Of(e, parse(t, "int x main { x -= 1; }"))
	if want := "start: x=2 in=[] out=[]\nresult: x\nexpected: 0, got: 1\n"; err != api.OK || !wrong || hint.Format(h, e.Given.Vars) != want {
		t.Error(h, wrong, err)
	}
}
