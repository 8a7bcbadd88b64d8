package ast_test

import (
	"slices"
	"strings"
	"testing"

	"backstep/api"
	"backstep/ast"
)

func num(n int) api.Node                     { return api.Node{Kind: api.Num, Num: n} }
func name(s string) api.Node                 { return api.Node{Kind: api.Var, Name: s} }
func node(k byte, kids ...api.Node) api.Node { return api.Node{Kind: k, Kids: kids} }
func with(k byte, s string, kids ...api.Node) api.Node {
	return api.Node{Kind: k, Name: s, Kids: kids}
}

var (
	x     = name("x")
	item  = with(api.Item, "a", num(1))
	empty = node(api.Block)
)

func validExprs() []api.Node {
	l := []api.Node{num(0), num(1<<63 - 1), x, item, with(api.Top, "s"), with(api.Size, "s"), node(api.Neg, x), node(api.Not, item)}
	for op := api.Add; op <= api.Either; op++ {
		l = append(l, node(op, x, num(2)))
	}
	return l
}

func validStmts() []api.Node {
	return []api.Node{
		node(api.Plus, x, num(1)), node(api.Minus, item, x), node(api.Flip, x, x), node(api.Set, x, num(1)),
		node(api.Swap, x, item), with(api.Push, "s", x), with(api.Pop, "s", item),
		node(api.Read, x), node(api.Unread, item), node(api.Write, x), node(api.Unwrite, x),
		with(api.Call, "f"), with(api.Uncall, "f", x, x, x, x, x, x, x, x),
		node(api.If, x, empty, node(api.Block, node(api.Read, x)), num(1)), node(api.From, num(1), empty, empty, x),
		with(api.Local, "y", num(1), empty, x), with(api.LocalStack, "s", empty),
	}
}

func TestValidForms(t *testing.T) {
	for _, n := range validExprs() {
		place := n.Kind == api.Var || n.Kind == api.Item
		if !ast.IsExpr(n) || ast.IsPlace(n) != place || ast.IsStmt(n) || ast.IsBlock(n) {
			t.Errorf("expression %v", n)
		}
	}
	for _, n := range validStmts() {
		if !ast.IsStmt(n) || ast.IsExpr(n) || ast.IsPlace(n) || ast.IsBlock(n) || !ast.IsBlock(node(api.Block, n, n)) {
			t.Errorf("statement %v", n)
		}
	}
	if !ast.IsBlock(empty) || ast.IsStmt(empty) || ast.IsExpr(empty) || ast.IsBlock(node(api.Block, empty)) {
		t.Error("blocks")
	}
}

func TestForeignFields(t *testing.T) {
	for _, n := range append(append(validExprs(), validStmts()...), empty) {
		variants := []api.Node{n, n, n, n}
		variants[0].Num = -1
		variants[1].Name = "Bad"
		variants[2].Kids = append(slices.Clone(n.Kids), api.Node{})
		variants[3].Kind = 200
		if n.Kind != api.Num {
			v := n
			v.Num = 1
			variants = append(variants, v)
		}
		if n.Name == "" {
			v := n
			v.Name = "x"
			variants = append(variants, v)
		} else {
			for _, bad := range []string{"", "if", strings.Repeat("x", 17)} {
				v := n
				v.Name = bad
				variants = append(variants, v)
			}
		}
		for i := range n.Kids {
			v := n
			v.Kids = slices.Clone(n.Kids)
			v.Kids[i] = node(api.Neg)
			variants = append(variants, v)
			if n.Kind != api.Call && n.Kind != api.Uncall && n.Kind != api.Block {
				v.Kids = slices.Delete(slices.Clone(n.Kids), i, i+1)
				variants = append(variants, v)
			}
		}
		for _, v := range variants {
			if ast.IsExpr(v) || ast.IsPlace(v) || ast.IsStmt(v) || ast.IsBlock(v) {
				t.Errorf("%v is accepted", v)
			}
		}
	}
}

func TestInvalidForms(t *testing.T) {
	for _, n := range []api.Node{
		node(api.Plus, num(1), x), node(api.Swap, x, num(1)), with(api.Push, "s", num(1)), node(api.Read, node(api.Neg, x)),
		with(api.Call, "f", num(1)), with(api.Call, "f", item), with(api.Call, "f", x, x, x, x, x, x, x, x, x),
		node(api.If, x, x, empty, x), node(api.If, empty, empty, empty, x), node(api.From, x, empty, node(api.Read, x), x),
		with(api.Local, "y", x, x, x), with(api.LocalStack, "s", x), node(0), node(39), node(24), node(58),
	} {
		if ast.IsStmt(n) || ast.IsExpr(n) {
			t.Errorf("%v is accepted", n)
		}
	}
}

func TestValid(t *testing.T) {
	decl := func(name string, kind byte, n int) api.VarDecl { return api.VarDecl{Name: name, Kind: kind, Len: n} }
	good := func() api.Program {
		return api.Program{
			Vars:  []api.VarDecl{decl("x", api.Int, 0), decl("a", api.Array, 1), decl("b", api.Array, 16), decl("s", api.Stack, 0)},
			Procs: []api.Proc{{Name: "f", Params: []api.VarDecl{decl("x", api.Int, 0), decl("x", api.Int, 0)}, Body: empty}},
			Main:  node(api.Block, node(api.Plus, x, num(1))),
		}
	}
	if !ast.Valid(good()) || !ast.Valid(api.Program{Main: empty}) || ast.Valid(api.Program{}) {
		t.Error("valid programs")
	}
	deep := func(d int) api.Node {
		n := x
		for range d - 3 {
			n = node(api.Neg, n)
		}
		return node(api.Block, node(api.Plus, x, n))
	}
	wide := func(size int) api.Node {
		n := empty
		for range (size - 2) / 2 {
			n.Kids = append(n.Kids, node(api.Read, x))
		}
		n.Kids = append(n.Kids, with(api.Call, "f"))
		return n
	}
	if ast.Depth(deep(80)) != 80 || ast.Size(wide(2000)) != 2000 || ast.Size(wide(2002)) != 2002 {
		t.Fatal("test trees")
	}
	changes := map[string]struct {
		change func(p *api.Program)
		want   bool
	}{
		"32 variables":   {func(p *api.Program) { p.Vars = slices.Repeat(p.Vars, 8) }, true},
		"33 variables":   {func(p *api.Program) { p.Vars = append(slices.Repeat(p.Vars, 8), p.Vars[0]) }, false},
		"64 procedures":  {func(p *api.Program) { p.Procs = slices.Repeat(p.Procs, 64) }, true},
		"65 procedures":  {func(p *api.Program) { p.Procs = slices.Repeat(p.Procs, 65) }, false},
		"8 parameters":   {func(p *api.Program) { p.Procs[0].Params = slices.Repeat(p.Procs[0].Params, 4) }, true},
		"9 parameters":   {func(p *api.Program) { p.Procs[0].Params = slices.Repeat(p.Vars[:1], 9) }, false},
		"bad name":       {func(p *api.Program) { p.Vars[0].Name = "int" }, false},
		"bad kind":       {func(p *api.Program) { p.Vars[0].Kind = 4 }, false},
		"int length":     {func(p *api.Program) { p.Vars[0].Len = 1 }, false},
		"empty array":    {func(p *api.Program) { p.Vars[1].Len = 0 }, false},
		"long array":     {func(p *api.Program) { p.Vars[2].Len = 17 }, false},
		"stack length":   {func(p *api.Program) { p.Vars[3].Len = 1 }, false},
		"bad parameter":  {func(p *api.Program) { p.Procs[0].Params[1].Len = 2 }, false},
		"bad procedure":  {func(p *api.Program) { p.Procs[0].Name = "X" }, false},
		"bad body":       {func(p *api.Program) { p.Procs[0].Body = x }, false},
		"bad main":       {func(p *api.Program) { p.Main = node(api.Read, x) }, false},
		"depth 80":       {func(p *api.Program) { p.Main = deep(80) }, true},
		"depth 81":       {func(p *api.Program) { p.Main = deep(81) }, false},
		"size 2000":      {func(p *api.Program) { p.Procs[0].Body = wide(2000) }, true},
		"size over 2000": {func(p *api.Program) { p.Procs[0].Body = wide(2002) }, false},
	}
	for title, c := range changes {
		p := good()
		c.change(&p)
		if ast.Valid(p) != c.want {
			t.Error(title)
		}
	}
}

func TestEqualAndSame(t *testing.T) {
	a := node(api.If, x, empty, node(api.Block, node(api.Read, x)), num(1))
	b := ast.Clone(a)
	if !ast.Equal(a, b) || !ast.Equal(api.Node{Kids: []api.Node{}}, api.Node{}) {
		t.Error("equal trees")
	}
	b.Kids[2].Kids[0].Kids[0].Name = "y"
	if ast.Equal(a, b) || a.Kids[2].Kids[0].Kids[0].Name != "x" {
		t.Error("Clone shares memory, or Equal is wrong")
	}
	for _, other := range []api.Node{num(2), {Kind: api.Var, Num: 1}, {Kind: api.Num, Num: 1, Name: "x"}, node(api.Num, x)} {
		if ast.Equal(num(1), other) || ast.Equal(other, num(1)) {
			t.Errorf("%v equals 1", other)
		}
	}
	v := api.VarDecl{Name: "x", Kind: api.Int}
	p := api.Program{Vars: []api.VarDecl{v}, Procs: []api.Proc{{Name: "f", Params: []api.VarDecl{v}, Body: empty}}, Main: empty}
	if !ast.Same(p, p) || !ast.Same(api.Program{}, api.Program{Vars: []api.VarDecl{}, Procs: []api.Proc{}}) {
		t.Error("same programs")
	}
	q := []api.Program{p, p, p, p, p, p}
	q[0].Vars = nil
	q[1].Main = x
	q[2].Procs = nil
	q[3].Procs = []api.Proc{{Name: "g", Params: p.Procs[0].Params, Body: empty}}
	q[4].Procs = []api.Proc{{Name: "f", Body: empty}}
	q[5].Procs = []api.Proc{{Name: "f", Params: p.Procs[0].Params, Body: x}}
	for i := range q {
		if ast.Same(p, q[i]) {
			t.Error("different programs", i)
		}
	}
}

func TestSizeAndDepth(t *testing.T) {
	n := node(api.Plus, x, num(1))
	if ast.Size(n) != 3 || ast.Depth(n) != 2 || ast.Size(x) != 1 || ast.Depth(x) != 1 {
		t.Error("x += 1")
	}
	n = node(api.Block, n, node(api.Read, item))
	if ast.Size(n) != 7 || ast.Depth(n) != 4 {
		t.Error(ast.Size(n), ast.Depth(n))
	}
}

func TestWalk(t *testing.T) {
	n := node(api.Block, node(api.Plus, x, num(1)), node(api.Read, item))
	want := [][]int{{}, {0}, {0, 0}, {0, 1}, {1}, {1, 0}, {1, 0, 0}}
	var paths [][]int
	for path, m := range ast.Walk(n) {
		at, ok := ast.At(n, path)
		if !ok || !ast.Equal(at, m) {
			t.Errorf("path %v", path)
		}
		paths = append(paths, path)
		_ = append(path, 99)
		for i := range path {
			path[i] += 0
		}
	}
	if !slices.EqualFunc(paths, want, slices.Equal) {
		t.Error(paths)
	}
	for i := range want {
		count := 0
		for range ast.Walk(n) {
			if count == i {
				break
			}
			count++
		}
		if count != i {
			t.Error("break", count)
		}
	}
	for path := range ast.Walk(n) {
		for i := range path {
			path[i] = -1
		}
	}
}

func TestWalkPathsAreNew(t *testing.T) {
	var got [][]int
	for path := range ast.Walk(node(api.Block, node(api.Plus, x, x))) {
		got = append(got, slices.Clone(path))
		for i := range path {
			path[i] = 7
		}
	}
	if !slices.EqualFunc(got, [][]int{{}, {0}, {0, 0}, {0, 1}}, slices.Equal) {
		t.Error(got)
	}
}

func TestAtAndReplace(t *testing.T) {
	n := node(api.Plus, item, num(1))
	for _, path := range [][]int{{2}, {-1}, {0, 1}, {0, 0, 0}, {1, 0}} {
		if m, ok := ast.At(n, path); ok || !ast.Equal(m, api.Node{}) {
			t.Error("At", path)
		}
		if m, ok := ast.Replace(n, path, x); ok || !ast.Equal(m, api.Node{}) {
			t.Error("Replace", path)
		}
	}
	if m, ok := ast.At(n, []int{0, 0}); !ok || m.Num != 1 {
		t.Error("At", m)
	}
	before := ast.Clone(n)
	m, ok := ast.Replace(n, []int{0, 0}, x)
	if !ok || !ast.Equal(m, node(api.Plus, with(api.Item, "a", x), num(1))) || !ast.Equal(n, before) {
		t.Error("Replace", m, n)
	}
	if m, ok := ast.Replace(n, nil, x); !ok || !ast.Equal(m, x) {
		t.Error("Replace of the root")
	}
}
