package procgen_test

import (
	"testing"

	"backstep/anf"
	"backstep/api"
	"backstep/ast"
	"backstep/build"
	"backstep/parser"
	"backstep/procgen"
)

func block(t *testing.T, s string) api.Node {
	t.Helper()
	n, pos, e := parser.Block(s)
	if e != api.OK {
		t.Fatal(s, pos, e)
	}
	return n
}

func TestClean(t *testing.T) {
	c := block(t, "t0 += x; call f(t0, t1);")
	for list, want := range map[bool]string{false: "t0 += x; call f(t0, t1); out ^= t1; uncall f(t0, t1); t0 -= x;", true: "t0 += x; call f(t0, t1); call lcopy(t1, out); uncall f(t0, t1); t0 -= x;"} {
		if got := procgen.Clean(anf.Func{List: list, Result: "t1"}, c); !ast.Equal(got, block(t, want)) {
			t.Error(got)
		}
	}
	wide := build.Block(build.Call(api.Call, "f", "a", "b", "c", "d", "e", "h", "i", "j", "k"))
	if got := procgen.Clean(anf.Func{Result: "r"}, wide); len(got.Kids) != 3 {
		t.Error("a block without inverse", got)
	}
}

func TestProc(t *testing.T) {
	params := []api.VarDecl{build.Decl("x", false)}
	body := block(t, "x += 1;")
	if p, e := procgen.Proc("f", params, body); e != api.OK || p.Name != "f" || len(p.Params) != 1 || !ast.Equal(p.Body, body) {
		t.Error(p, e)
	}
	deep := body
	for range 40 {
		deep = build.Block(build.Named(api.LocalStack, "s", deep))
	}
	nine := append(append(append(params, params...), append(params, params...)...), append(append(params, params...), append(params, params...)...)...)
	for i, c := range []struct {
		params []api.VarDecl
		body   api.Node
		want   api.Errno
	}{{nine[:8], body, api.OK}, {nine[:8], deep, api.ErrDepth}, {append(nine, params...), deep, api.ErrDepth}, {append(nine[:8:8], params...), body, api.ErrFull}, {params, build.Block(api.Node{}), api.ErrFull}} {
		if p, e := procgen.Proc("f", c.params, c.body); e != c.want || e != api.OK && p.Name != "" {
			t.Error(i, e)
		}
	}
}
