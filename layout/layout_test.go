package layout_test

import (
	"math"
	"slices"
	"testing"

	"backstep/api"
	"backstep/internal/sample"
	"backstep/layout"
	"backstep/parser"
)

func block(t *testing.T, s string) api.Node {
	t.Helper()
	n, pos, e := parser.Block(s)
	if e != api.OK {
		t.Fatalf("%q: %d, %d", s, pos, e)
	}
	return n
}

var (
	x = api.VarDecl{Name: "x", Kind: api.Int}
	a = api.VarDecl{Name: "a", Kind: api.Array, Len: 3}
	s = api.VarDecl{Name: "s", Kind: api.Stack}
)

func TestOf(t *testing.T) {
	f, e := layout.Of([]api.VarDecl{x, a, s}, block(t, "local y = 1 { local stack t { }; } delocal 1; local y = 2 { } delocal 2;"))
	want := []layout.Slot{{"x", api.Int, 0, 0}, {"a", api.Array, 3, 1}, {"s", api.Stack, 0, 1}, {"y", api.Int, 0, 4}, {"t", api.Stack, 0, 2}}
	if e != api.OK || !slices.Equal(f.Slots, want) || f.Cells != 5 || f.Stacks != 2 || !f.Disjoint() {
		t.Error(f, e)
	}
	f, e = layout.Of(nil, block(t, "if 1 { local y = 1 { } delocal 1; } else { local stack y { local z = 1 { } delocal 1; }; } fi 1; local stack y { local y = 1 { } delocal 1; };"))
	want = []layout.Slot{{"y", api.Int, 0, 0}, {"y", api.Stack, 0, 1}, {"z", api.Int, 0, 1}}
	if e != api.OK || !slices.Equal(f.Slots, want) || f.Cells != 2 || f.Stacks != 1 {
		t.Error(f, e)
	}
	if f, e := layout.Of(nil, block(t, "")); e != api.OK || len(f.Slots) != 0 || f.Cells != 0 || f.Stacks != 0 {
		t.Error(f, e)
	}
}

func TestOfErrors(t *testing.T) {
	ok := block(t, "x += 1;")
	twice := block(t, "local x = 1 { } delocal 1;")
	for i, c := range []struct {
		vars []api.VarDecl
		body api.Node
		want api.Errno
	}{
		{[]api.VarDecl{x, x, {Kind: 9}}, ok, api.ErrForm}, {[]api.VarDecl{x, x}, api.Node{}, api.ErrForm}, {[]api.VarDecl{{Name: "a", Kind: api.Array}}, ok, api.ErrForm},
		{slices.Repeat([]api.VarDecl{x}, 33), ok, api.ErrForm}, {nil, ok.Kids[0], api.ErrForm},
		{[]api.VarDecl{x, a, x}, ok, api.ErrTwice}, {[]api.VarDecl{x}, twice, api.ErrTwice}, {[]api.VarDecl{s}, block(t, "if 1 { } else { local s = 1 { } delocal 1; } fi 1;"), api.ErrTwice},
		{[]api.VarDecl{x}, block(t, "local stack x { };"), api.ErrTwice}, {nil, twice, api.OK},
	} {
		f, e := layout.Of(c.vars, c.body)
		if e != c.want || e != api.OK && (len(f.Slots) != 0 || f.Cells != 0) {
			t.Errorf("case %d: %v, %d", i, f, e)
		}
	}
}

func TestFind(t *testing.T) {
	f := layout.Frame{Slots: []layout.Slot{{"x", api.Int, 0, 1}, {"x", api.Stack, 0, 2}, {"x", api.Int, 0, 3}}}
	if got, ok := f.Find("x", api.Int); !ok || got.At != 1 {
		t.Error(got, ok)
	}
	if got, ok := f.Find("x", api.Stack); !ok || got.At != 2 {
		t.Error(got, ok)
	}
	for _, c := range []struct {
		name string
		kind byte
	}{{"x", api.Array}, {"y", api.Int}} {
		if got, ok := f.Find(c.name, c.kind); ok || got != (layout.Slot{}) {
			t.Error(got, ok)
		}
	}
}

func TestDisjoint(t *testing.T) {
	slot := func(kind byte, n, at int) layout.Slot { return layout.Slot{Name: "x", Kind: kind, Len: n, At: at} }
	for i, c := range []struct {
		slots         []layout.Slot
		cells, stacks int
		want          bool
	}{
		{nil, 0, 0, true}, {nil, 9, 9, true},
		{[]layout.Slot{slot(api.Int, 0, 0)}, 1, 0, true}, {[]layout.Slot{slot(api.Int, 0, 1)}, 1, 0, false}, {[]layout.Slot{slot(api.Int, 0, -1)}, 1, 0, false}, {[]layout.Slot{slot(api.Int, 7, 0)}, 1, 0, true},
		{[]layout.Slot{slot(api.Array, 3, 1)}, 4, 0, true}, {[]layout.Slot{slot(api.Array, 3, 2)}, 4, 0, false}, {[]layout.Slot{slot(api.Array, 0, 0)}, 4, 0, false}, {[]layout.Slot{slot(api.Array, -1, 0)}, 4, 0, false},
		{[]layout.Slot{slot(api.Array, math.MaxInt, 1)}, 4, 0, false}, {[]layout.Slot{slot(api.Array, 2, math.MaxInt)}, math.MaxInt, 0, false}, {[]layout.Slot{slot(api.Int, 0, math.MinInt)}, math.MaxInt, 0, false},
		{[]layout.Slot{slot(api.Stack, 0, 1)}, 0, 1, true}, {[]layout.Slot{slot(api.Stack, 0, 0)}, 0, 1, false}, {[]layout.Slot{slot(api.Stack, 0, 2)}, 0, 1, false}, {[]layout.Slot{slot(api.Stack, 99, 1), slot(api.Stack, 0, 2)}, 0, 2, true},
		{[]layout.Slot{slot(0, 0, 0)}, 1, 1, false}, {[]layout.Slot{slot(4, 0, 0)}, 1, 1, false},
		{[]layout.Slot{slot(api.Int, 0, 3), slot(api.Array, 3, 0), slot(api.Stack, 0, 1)}, 4, 1, true}, {[]layout.Slot{slot(api.Int, 0, 2), slot(api.Array, 3, 0)}, 4, 1, false}, {[]layout.Slot{slot(api.Array, 3, 0), slot(api.Array, 2, 2)}, 4, 1, false},
		{[]layout.Slot{slot(api.Int, 0, 0), slot(api.Int, 0, 0)}, 4, 1, false}, {[]layout.Slot{slot(api.Stack, 0, 2), slot(api.Int, 0, 0), slot(api.Stack, 0, 2)}, 4, 3, false},
	} {
		f := layout.Frame{Slots: c.slots, Cells: c.cells, Stacks: c.stacks}
		before := slices.Clone(c.slots)
		if f.Disjoint() != c.want || !slices.Equal(before, c.slots) {
			t.Errorf("case %d: %v", i, f)
		}
	}
}

func TestFramesOfPrograms(t *testing.T) {
	for seed := range 300 {
		p := sample.Program(seed)
		f, e := layout.Of(p.Vars, p.Main)
		used, stacks := 0, 0
		for _, s := range f.Slots {
			switch s.Kind {
			case api.Int:
				used++
			case api.Array:
				used += s.Len
			case api.Stack:
				stacks++
			}
		}
		if e != api.OK || !f.Disjoint() || used != f.Cells || stacks != f.Stacks {
			t.Fatal(seed, f, e)
		}
	}
}
