package chain_test

import (
	"slices"
	"strings"
	"testing"

	"backstep/api"
	"backstep/ast"
	"backstep/bennett"
	"backstep/chain"
	"backstep/checker"
	"backstep/funtext"
	"backstep/interp"
	"backstep/parser"
	"backstep/pebble"
	"backstep/state"
)

const much = 1 << 22

func parse(t *testing.T, s string) []api.Func {
	t.Helper()
	lib, pos, e := funtext.Parse(s)
	if e != api.OK {
		t.Fatalf("%.80q: %d, %d", s, pos, e)
	}
	return lib
}

const text = "proc double(int n) int { n + n } proc odd(int n) int { if n % 2 { 3 * n + 1 } else { n / 2 } } proc part(int n) int { 100 / (n - 1) } proc two(int a, int b) int { a } proc lists(stack l) int { 0 } proc one(int x) stack { [] } proc sq(int x) int { x * x - 3 }"

func TestProgram(t *testing.T) {
	lib := parse(t, text)
	moves, _ := pebble.Bennett(4, 2)
	p, e := chain.Program(lib, "double", 4, moves)
	if e != api.OK || !checker.OK(p) {
		t.Fatal(e)
	}
	main, _, _ := parser.Block("call double(x, c0); call double(c0, c1); uncall double(x, c0); call double(c1, c0); call double(c0, c2); uncall double(c1, c0); call double(x, c0); uncall double(c0, c1); uncall double(x, c0); out <=> c2;")
	procs, _ := bennett.Program(lib, "double", nil)
	var vars []api.VarDecl
	for _, name := range []string{"x", "out", "c0", "c1", "c2"} {
		vars = append(vars, api.VarDecl{Name: name, Kind: api.Int})
	}
	if !ast.Same(p, api.Program{Vars: vars, Procs: procs.Procs, Main: main}) {
		t.Error(p)
	}
	if v, n, e := chain.Run(lib, "double", 4, moves, 3, much); v != 48 || n == 0 || e != api.OK {
		t.Error(v, n, e)
	}
}

func TestProgramErrors(t *testing.T) {
	lib := parse(t, text)
	line := func(n int) []int {
		moves, _ := pebble.Bennett(n, 500)
		return moves
	}
	repeated := func(times int) []int {
		return append(slices.Repeat([]int{1, -1}, times), 1)
	}
	deep := "x" + strings.Repeat(" + x", 60)
	for i, c := range []struct {
		lib   []api.Func
		name  string
		n     int
		moves []int
		want  api.Errno
	}{
		{[]api.Func{{Name: "X"}}, "double", 1, nil, api.ErrForm}, {lib, "none", 1, nil, api.ErrNone}, {parse(t, "proc f(stack l) int { 1 } proc h(int x) int { "+deep+" }"), "f", 1, nil, api.ErrDepth},
		{lib, "two", 1, nil, api.ErrType}, {lib, "lists", 1, nil, api.ErrType}, {lib, "one", 1, []int{1}, api.ErrType}, {lib, "double", 1, nil, api.ErrArg}, {lib, "double", 2, []int{1, 2}, api.ErrArg}, {lib, "double", 0, nil, api.ErrArg}, {lib, "double", -1, []int{1}, api.ErrArg}, {lib, "double", 2, []int{1, 1}, api.ErrArg},
		{lib, "double", 30, line(30), api.OK}, {lib, "double", 31, line(31), api.ErrFull}, {lib, "double", 1, repeated(332), api.OK}, {lib, "double", 1, repeated(333), api.ErrFull},
	} {
		p, e := chain.Program(c.lib, c.name, c.n, c.moves)
		if e != c.want || e != api.OK && !ast.Same(p, api.Program{}) || e == api.OK && !checker.OK(p) {
			t.Errorf("case %d: %d", i, e)
		}
		if v, n, e := chain.Run(c.lib, c.name, c.n, c.moves, 1, 0); c.want != api.OK && (e != c.want || v != 0 || n != 0) {
			t.Errorf("case %d: Run %d", i, e)
		}
	}
}

func TestIterate(t *testing.T) {
	lib := parse(t, text)
	for i, c := range []struct {
		lib           []api.Func
		name          string
		n, x, fuel, v int
		want          api.Errno
	}{
		{lib, "double", 0, 7, 0, 7, api.OK}, {lib, "double", 4, 3, 3, 48, api.OK}, {lib, "double", 4, 3, 2, 0, api.ErrFuel}, {lib, "double", 500, 1, much, 0, api.OK}, {lib, "double", 501, 1, much, 0, api.ErrRange}, {lib, "double", -1, 1, much, 0, api.ErrRange},
		{lib, "odd", 5, 7, much, 52, api.OK}, {lib, "part", 3, 26, much, 3, api.OK}, {lib, "part", 1, 1, much, 0, api.ErrDivide}, {lib, "two", -1, 1, much, 0, api.ErrType}, {lib, "lists", 1, 1, much, 0, api.ErrType}, {lib, "one", 1, 1, much, 0, api.ErrType}, {lib, "none", -1, 1, much, 0, api.ErrNone}, {[]api.Func{{}}, "none", -1, 1, much, 0, api.ErrForm},
	} {
		if v, e := chain.Iterate(c.lib, c.name, c.n, c.x, c.fuel); v != c.v || e != c.want {
			t.Errorf("case %d: %d, %d", i, v, e)
		}
	}
}

func TestAllStrategiesComputeTheSame(t *testing.T) {
	lib := parse(t, text)
	for n := 1; n <= 9; n++ {
		var strategies [][]int
		for _, k := range []int{2, 3, 9} {
			moves, _ := pebble.Bennett(n, k)
			strategies = append(strategies, moves)
		}
		if best, ok := pebble.Best(n, 5); ok {
			strategies = append(strategies, best)
		}
		for _, name := range []string{"double", "odd", "sq", "part"} {
			for x := -3; x < 6; x++ {
				want, e := chain.Iterate(lib, name, n, x, much)
				for _, moves := range strategies {
					got, steps, e2 := chain.Run(lib, name, n, moves, x, much)
					if got != want || e2 != e || (steps > 0) != (e == api.OK) {
						t.Fatal(name, n, x, got, e2, want, e)
					}
					if e == api.OK {
						check(t, lib, name, n, moves, x, want)
					}
				}
			}
		}
	}
}

// check runs a program forward and backward.
func check(t *testing.T, lib []api.Func, name string, n int, moves []int, x, want int) {
	t.Helper()
	p, _ := chain.Program(lib, name, n, moves)
	s, _ := state.New(p.Vars, nil)
	s.Cells[0][0] = x
	r := interp.Forward(p, s, much)
	end := state.Clone(s)
	end.Cells[1][0] = want
	if len(p.Main.Kids) != len(moves)+1 || !state.Equal(r.State, end) {
		t.Fatal(r)
	}
	if back := interp.Backward(p, r.State, much); back.Err != api.OK || !state.Equal(back.State, s) {
		t.Fatal(back)
	}
}
