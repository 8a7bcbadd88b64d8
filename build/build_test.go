package build_test

import (
	"testing"

	"backstep/api"
	"backstep/ast"
	"backstep/build"
	"backstep/parser"
)

func TestConstructors(t *testing.T) {
	n := build.Block(build.Call(api.Uncall, "f", "x", "y"), build.Local("k", build.Ref("x"), build.Num(2), build.Node(api.Plus, build.Ref("k"), build.Num(1))), build.Named(api.Push, "s", build.Ref("x")))
	want, _, e := parser.Block("uncall f(x, y); local k = x { k += 1; } delocal 2; push x, s;")
	if e != api.OK || !ast.Equal(n, want) {
		t.Error(n)
	}
	if build.Decl("x", true) != (api.VarDecl{Name: "x", Kind: api.Stack}) || build.Decl("x", false) != (api.VarDecl{Name: "x", Kind: api.Int}) {
		t.Error("Decl")
	}
}

func TestLocals(t *testing.T) {
	inner := build.Block(build.Node(api.Read, build.Ref("a")))
	n := build.Locals([]api.Param{{Name: "a"}, {Name: "b", List: true}}, inner)
	want, _, e := parser.Block("local a = 0 { local stack b { read a; }; } delocal 0;")
	if e != api.OK || !ast.Equal(n, want) || !ast.Equal(build.Locals(nil, inner), inner) {
		t.Error(n)
	}
}

func TestFits(t *testing.T) {
	deep := build.Block()
	for range 39 {
		deep = build.Locals([]api.Param{{Name: "a", List: true}}, deep)
	}
	if build.Fits(deep) != api.OK || build.Fits(build.Block(build.Named(api.LocalStack, "a", deep))) != api.ErrDepth {
		t.Error("depth", ast.Depth(deep))
	}
	deep = build.Block(build.Node(api.Read, build.Named(api.Item, "a", build.Num(1))))
	for range 38 {
		deep = build.Block(build.Named(api.LocalStack, "a", deep))
	}
	if ast.Depth(deep) != 80 || build.Fits(deep) != api.OK {
		t.Error("depth", ast.Depth(deep))
	}
	var wide []api.Node
	for range 999 {
		wide = append(wide, build.Node(api.Read, build.Ref("a")))
	}
	if build.Fits(build.Block(wide...)) != api.OK || build.Fits(build.Block(append(wide, wide[0])...)) != api.ErrFull {
		t.Error("size")
	}
	exact := build.Block(append(wide[:998:998], build.Call(api.Call, "f", "a", "b"))...)
	if ast.Size(exact) != 2000 || build.Fits(exact) != api.OK {
		t.Error("size", ast.Size(exact))
	}
}
