package witness_test

import (
	"slices"
	"testing"

	"backstep/api"
	"backstep/checker"
	"backstep/enumerate"
	"backstep/internal/sample"
	"backstep/parser"
	"backstep/state"
	"backstep/witness"
)

var (
	x    = api.VarDecl{Name: "x", Kind: api.Int}
	y    = api.VarDecl{Name: "y", Kind: api.Int}
	a    = api.VarDecl{Name: "a", Kind: api.Array, Len: 2}
	s    = api.VarDecl{Name: "s", Kind: api.Stack}
	vars = []api.VarDecl{x, y, a, s}
)

func stmt(t *testing.T, text string) api.Node {
	t.Helper()
	n, pos, e := parser.Block(text)
	if e != api.OK || len(n.Kids) != 1 {
		t.Fatalf("%q: %d, %d", text, pos, e)
	}
	return n.Kids[0]
}

func sampleState() api.State {
	return api.State{Cells: [][]int{{1}, {4}, {5, 6}, {7}}, In: []int{8}, Out: []int{9}}
}

func TestAssign(t *testing.T) {
	for text, want := range map[string][][]int{
		"x := y + a[1];":           {{10}, {4}, {5, 6}, {7}},
		"a[x] := a[x - 1]; ":       {{1}, {4}, {5, 5}, {7}},
		"a[a[0] - 5] := a[0] * 2;": {{1}, {4}, {10, 6}, {7}},
		"x := x;":                  {{1}, {4}, {5, 6}, {7}},
		"x += x;":                  {{2}, {4}, {5, 6}, {7}},
		"x <=> a[0];":              {{5}, {4}, {1, 6}, {7}},
		"push y, s;":               {{1}, {0}, {5, 6}, {7, 4}},
	} {
		before := sampleState()
		got, e := witness.Assign(stmt(t, text), vars, before)
		want := api.State{Cells: want, In: []int{8}, Out: []int{9}}
		if e != api.OK || !state.Equal(got, want) || !state.Equal(before, sampleState()) {
			t.Errorf("%q: %v, %d", text, got, e)
		}
		for i := range got.Cells {
			for j := range got.Cells[i] {
				got.Cells[i][j] = 99
			}
		}
		if !state.Equal(before, sampleState()) {
			t.Errorf("%q: the result shares memory", text)
		}
	}
	twice := []api.VarDecl{x, x}
	if got, e := witness.Assign(stmt(t, "x := 5;"), twice, api.State{Cells: [][]int{{1}, {2}}}); e != api.OK || got.Cells[0][0] != 1 || got.Cells[1][0] != 5 {
		t.Error("the last declaration counts", got, e)
	}
}

func TestAssignErrors(t *testing.T) {
	for text, want := range map[string]api.Errno{
		"call f();": api.ErrType, "if z { } else { } fi 1;": api.ErrType, "local k = 1 { } delocal 1;": api.ErrType,
		"z := 1;": api.ErrName, "a := z;": api.ErrType, "x := z;": api.ErrName, "x := s;": api.ErrType, "z += 1;": api.ErrName,
		"a[2] := 1 / 0;": api.ErrDivide, "a[1 / 0] := top(s);": api.ErrDivide, "a[2] := 1;": api.ErrIndex, "a[-1] := 1;": api.ErrIndex, "read x;": api.ErrClear, "pop x, s;": api.ErrClear,
	} {
		if got, e := witness.Assign(stmt(t, text), vars, sampleState()); e != want || !state.Equal(got, api.State{}) {
			t.Errorf("%q: %v, %d", text, got, e)
		}
	}
	if _, e := witness.Assign(stmt(t, "call f();"), vars, api.State{}); e != api.ErrForm {
		t.Error("a state that does not fit", e)
	}
	for _, n := range []api.Node{{}, {Kind: api.Set}, {Kind: api.Block}, {Kind: api.Num}} {
		if _, e := witness.Assign(n, vars, sampleState()); e != api.ErrForm {
			t.Errorf("%v: %d", n, e)
		}
	}
}

func TestLossy(t *testing.T) {
	one := func(v int) api.State { return api.State{Cells: [][]int{{v}}} }
	pair, ok := witness.Lossy(stmt(t, "x := 0;"), []api.VarDecl{x}, enumerate.Box{Value: 1})
	if !ok || !state.Equal(pair.A, one(0)) || !state.Equal(pair.B, one(1)) {
		t.Error(pair, ok)
	}
	pair, ok = witness.Lossy(stmt(t, "x -= x;"), []api.VarDecl{x}, enumerate.Box{Value: 2})
	if !ok || !state.Equal(pair.A, one(0)) || !state.Equal(pair.B, one(1)) {
		t.Error(pair, ok)
	}
	pair, ok = witness.Lossy(stmt(t, "x := x * x;"), []api.VarDecl{x}, enumerate.Box{Value: 2})
	if !ok || !state.Equal(pair.A, one(1)) || !state.Equal(pair.B, one(-1)) {
		t.Error(pair, ok)
	}
	pair, ok = witness.Lossy(stmt(t, "x := 1 / x;"), []api.VarDecl{x}, enumerate.Box{Value: 3})
	if !ok || !state.Equal(pair.A, one(2)) || !state.Equal(pair.B, one(-2)) {
		t.Error("states on which the statement fails do not count", pair, ok)
	}
	for text, b := range map[string]enumerate.Box{"x += 1;": {Value: 3}, "x += x;": {Value: 3}, "x := x;": {Value: 3}, "x := 0;": {}, "call f(x);": {Value: 3}, "z := 1;": {Value: 3}} {
		if pair, ok := witness.Lossy(stmt(t, text), []api.VarDecl{x}, b); ok || !state.Equal(pair.B, api.State{}) {
			t.Errorf("%q: %v", text, pair)
		}
	}
}

func TestBoxes(t *testing.T) {
	two := []api.VarDecl{x, y}
	for _, c := range []struct {
		vars []api.VarDecl
		b    enumerate.Box
		want bool
	}{
		{two, enumerate.Box{Value: 127}, true}, {two, enumerate.Box{Value: 128}, false}, {two, enumerate.Box{Value: -1}, false},
		{two, enumerate.Box{Value: 1001}, false}, {[]api.VarDecl{{Name: "x", Kind: 9}}, enumerate.Box{Value: 1}, false},
	} {
		if _, ok := witness.Lossy(stmt(t, "x := 0;"), c.vars, c.b); ok != c.want {
			t.Error("Lossy", c.b)
		}
		if _, ok := witness.Constant(stmt(t, "if x == 1 { } else { } fi 1;"), c.vars, c.b, 10); ok != c.want {
			t.Error("Constant", c.b)
		}
	}
}

func TestLargestBox(t *testing.T) {
	stacks := []api.VarDecl{s, {Name: "t", Kind: api.Stack}}
	fails := stmt(t, "if 1 { } else { } fi 0;")
	if _, ok := witness.Constant(fails, stacks, enumerate.Box{Length: 255}, 10); !ok {
		t.Error("MaxStates states")
	}
	if _, ok := witness.Constant(fails, stacks, enumerate.Box{Length: 255, Input: 1}, 10); ok {
		t.Error("more than MaxStates states")
	}
}

func TestConstant(t *testing.T) {
	b := enumerate.Box{Value: 2}
	for text, want := range map[string]int{"if x == 1 { } else { } fi 1;": 0, "if x == 0 { } else { } fi 1;": 1, "from 0 { } loop { } until x;": 0, "if x { } else { } fi 0;": 1} {
		got, ok := witness.Constant(stmt(t, text), []api.VarDecl{x}, b, 10)
		if !ok || got.Cells[0][0] != want {
			t.Errorf("%q: %v, %v", text, got, ok)
		}
	}
	if got, ok := witness.Constant(stmt(t, "if x != 0 || 1 / x { } else { } fi 1;"), []api.VarDecl{x}, b, 10); ok {
		t.Error("other errors do not count", got)
	}
	if _, ok := witness.Constant(stmt(t, "if x == 1 { } else { } fi 1;"), []api.VarDecl{x}, b, 1); ok {
		t.Error("without fuel no assertion fails")
	}
	if _, ok := witness.Constant(stmt(t, "if x == 1 { call f(x); } else { } fi 0;"), []api.VarDecl{x}, b, 100); ok {
		t.Error("there are no procedures")
	}
	if _, ok := witness.Constant(api.Node{}, []api.VarDecl{x}, b, 100); ok {
		t.Error("no statement")
	}
}

func TestExplain(t *testing.T) {
	p, pos, e := parser.Program(`int x array a[2]
proc f(int p) { local k = 1 { p += 1; k := p; } delocal 1; }
proc g(int p) { p -= p; }
main { if x > 1 { call g(x); } else { } fi 1; call h(x, x); a[a[0]] += 1; a[1] := 1 / 0; }
`)
	if e == api.OK {
		p.Procs = append(p.Procs, api.Proc{Name: "h", Params: []api.VarDecl{{Name: "p", Kind: api.Int}, {Name: "q", Kind: api.Int}}, Body: api.Node{Kind: api.Block}})
	} else {
		t.Fatal(pos, e)
	}
	l := checker.Check(p)
	if len(l) != 6 {
		t.Fatal(l)
	}
	b := enumerate.Box{Value: 1}
	cells := func(l ...[]int) api.State { return api.State{Cells: l} }
	want := [][]api.State{
		{cells([]int{0}, []int{0}), cells([]int{0}, []int{1})},
		{cells([]int{0}), cells([]int{1})},
		{cells([]int{0}, []int{0, 0})},
		nil,
		{cells([]int{0}, []int{0, 1}), cells([]int{0}, []int{1, 0})},
		nil,
	}
	for i, r := range l {
		got, ok := witness.Explain(p, r, b, 50)
		if ok != (want[i] != nil) || !slices.EqualFunc(got, want[i], state.Equal) {
			t.Errorf("rejection %v: %v, %v", r, got, ok)
		}
	}
	for _, r := range []checker.Rejection{{}, {Proc: 0, Path: l[0].Path, Err: api.ErrAlias, Name: l[0].Name}, {Proc: 5, Path: l[0].Path, Err: l[0].Err, Name: l[0].Name}, {Proc: -2}} {
		if got, ok := witness.Explain(p, r, b, 50); len(got) != 0 || ok {
			t.Error("no rejection", r, got)
		}
	}
	if got, ok := witness.Explain(api.Program{}, l[0], b, 50); len(got) != 0 || ok {
		t.Error("invalid program", got)
	}
}

func TestExplainUsesProcedures(t *testing.T) {
	p, _, _ := parser.Program("int x proc f(int p) { p += 1; } main { if x == 0 { call f(x); } else { } fi 0; }")
	l := checker.Check(p)
	got, ok := witness.Explain(p, l[0], enumerate.Box{Value: 1}, 50)
	if !ok || len(got) != 1 || got[0].Cells[0][0] != 0 {
		t.Error(got, ok)
	}
	if got, ok := witness.Explain(p, l[0], enumerate.Box{Value: 1}, 0); ok || len(got) != 0 {
		t.Error("no counterexample", got)
	}
}

func TestGreaterBoxes(t *testing.T) {
	n := stmt(t, "x := y / 2;")
	var last api.State
	for v := range 4 {
		pair, ok := witness.Lossy(n, []api.VarDecl{x, y}, enumerate.Box{Value: v})
		if ok != (v > 0) || v > 1 && enumerate.Less(last, pair.B) {
			t.Error(v, pair, ok)
		}
		last = pair.B
	}
}

func TestAcceptedStatementsAreNotLossy(t *testing.T) {
	for seed := range 15 {
		p := sample.Program(seed)
		for _, n := range p.Main.Kids {
			if pair, ok := witness.Lossy(n, p.Vars[:5], enumerate.Box{Value: 1, Length: 1, Input: 1}); ok {
				t.Error(n, pair)
			}
		}
	}
}
