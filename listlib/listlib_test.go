package listlib_test

import (
	"slices"
	"testing"

	"backstep/api"
	"backstep/ast"
	"backstep/build"
	"backstep/checker"
	"backstep/interp"
	"backstep/listlib"
	"backstep/state"
)

const much = 1 << 20

func program(kind byte, name string) api.Program {
	return api.Program{Vars: []api.VarDecl{build.Decl("p", true), build.Decl("q", true)}, Procs: listlib.Procs(), Main: build.Block(build.Call(kind, name, "p", "q"))}
}

func stacks(a, b []int) api.State { return api.State{Cells: [][]int{a, b}} }

func TestProcs(t *testing.T) {
	l := listlib.Procs()
	if len(l) != listlib.Unique || l[0].Name != "lcopy" || l[1].Name != "lspill" || listlib.Copy != "lcopy" || listlib.Spill != "lspill" {
		t.Fatal(l)
	}
	want := []api.VarDecl{{Name: "a", Kind: api.Stack}, {Name: "b", Kind: api.Stack}}
	if !slices.Equal(l[0].Params, want) {
		t.Error(l[0].Params)
	}
	want[1].Name = "g"
	if !slices.Equal(l[1].Params, want) {
		t.Error(l[1].Params)
	}
	for _, name := range []string{"lcopy", "lspill"} {
		if !checker.OK(program(api.Call, name)) || !checker.OK(program(api.Uncall, name)) {
			t.Error(name)
		}
	}
	for i := range l {
		for _, n := range ast.Walk(l[i].Body) {
			for j := range n.Kids {
				n.Kids[j].Name = "changed"
			}
		}
		l[i].Params[0].Name = "changed"
	}
	if !checker.OK(program(api.Call, "lcopy")) {
		t.Error("each call returns new trees")
	}
}

func count(n int) []int {
	var l []int
	for i := range n {
		l = append(l, i*i-5)
	}
	return l
}

func TestStates(t *testing.T) {
	a, b, e := listlib.CopyState([]int{1, 2}, []int{7})
	if !slices.Equal(a, []int{1, 2}) || !slices.Equal(b, []int{7, 1, 2}) || e != api.OK {
		t.Error(a, b, e)
	}
	a, b, e = listlib.SpillState([]int{1, 2}, []int{7})
	if len(a) != 0 || !slices.Equal(b, []int{7, 2, 1, 2}) || e != api.OK {
		t.Error(a, b, e)
	}
	from, to := []int{1, 2}, make([]int, 1, 10)
	a, b, _ = listlib.CopyState(from, to)
	a[0], b[0] = 9, 9
	_, c, _ := listlib.SpillState(from, to)
	c[0] = 9
	if from[0] != 1 || to[0] != 0 || !slices.Equal(to[:3], []int{0, 0, 0}) {
		t.Error("results share memory with arguments")
	}
	for _, sizes := range [][2]int{{0, 0}, {3, 997}, {3, 998}, {3, 996}, {0, 1000}, {0, 999}, {1000, 0}, {1000, 1}, {999, 0}, {2000, 0}} {
		from, to := count(sizes[0]), count(sizes[1])
		for name, of := range map[string]func(a, b []int) ([]int, []int, api.Errno){"lcopy": listlib.CopyState, "lspill": listlib.SpillState} {
			total := sizes[0] + sizes[1]
			if name == "lspill" {
				total++
			}
			a, b, e := of(from, to)
			if (e == api.OK) != (total <= api.MaxStack) || e != api.OK && (e != api.ErrFull || len(a) != 0 || len(b) != 0) {
				t.Error(name, sizes, e)
			}
			if sizes[0] > api.MaxStack {
				continue
			}
			r := interp.Forward(program(api.Call, name), stacks(from, to), much)
			if r.Err != e || e == api.OK && !state.Equal(r.State, stacks(a, b)) {
				t.Error(name, sizes, r.Err)
			}
			if e != api.OK {
				continue
			}
			if back := interp.Forward(program(api.Uncall, name), r.State, much); back.Err != api.OK || !state.Equal(back.State, stacks(from, to)) {
				t.Error("uncall", name, sizes, back.Err)
			}
		}
	}
}

func TestUncalls(t *testing.T) {
	for _, c := range []struct {
		name   string
		a, b   []int
		ok     bool
		a2, b2 []int
	}{
		{"lcopy", []int{1, 2}, []int{7, 1, 2}, true, []int{1, 2}, []int{7}}, {"lcopy", nil, []int{7}, true, nil, []int{7}}, {"lcopy", []int{1, 2}, []int{1, 2}, true, []int{1, 2}, nil},
		{"lcopy", []int{1, 2}, []int{7, 2, 1}, false, nil, nil}, {"lcopy", []int{1, 2}, []int{2}, false, nil, nil}, {"lcopy", []int{1}, nil, false, nil, nil}, {"lcopy", []int{0}, []int{1}, false, nil, nil},
		{"lspill", nil, []int{7, 2, 1, 2}, true, []int{1, 2}, []int{7}}, {"lspill", nil, []int{7, 2, 1, 0}, true, nil, []int{7, 2, 1}}, {"lspill", nil, []int{7, 2, 1, 3}, true, []int{1, 2, 7}, nil},
		{"lspill", nil, []int{7, 2, 1, 4}, false, nil, nil}, {"lspill", nil, []int{7, 2, 1, -1}, false, nil, nil}, {"lspill", nil, nil, false, nil, nil}, {"lspill", nil, []int{1}, false, nil, nil}, {"lspill", nil, []int{0}, true, nil, nil},
		{"lspill", nil, append(make([]int, 999), 999), true, make([]int, 999), nil}, {"lspill", nil, append(make([]int, 999), 1000), false, nil, nil},
	} {
		r := interp.Forward(program(api.Uncall, c.name), stacks(c.a, c.b), much)
		if (r.Err == api.OK) != c.ok || c.ok && !state.Equal(r.State, stacks(c.a2, c.b2)) {
			t.Error(c.name, c.a, c.b, r.Err)
		}
	}
}
