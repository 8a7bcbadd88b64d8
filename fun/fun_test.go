package fun_test

import (
	"slices"
	"testing"

	"backstep/api"
	"backstep/fun"
)

func num(n int) api.Node                     { return api.Node{Kind: api.FNum, Num: n} }
func ref(s string) api.Node                  { return api.Node{Kind: api.FVar, Name: s} }
func node(k byte, kids ...api.Node) api.Node { return api.Node{Kind: k, Kids: kids} }
func op(k byte, a, b api.Node) api.Node {
	return api.Node{Kind: api.FOp, Num: int(k), Kids: []api.Node{a, b}}
}
func call(s string, kids ...api.Node) api.Node {
	return api.Node{Kind: api.FCall, Name: s, Kids: kids}
}
func let(s string, v, body api.Node) api.Node {
	return api.Node{Kind: api.FLet, Name: s, Kids: []api.Node{v, body}}
}

var (
	x       = api.Param{Name: "x"}
	xs      = api.Param{Name: "xs", List: true}
	null    = node(api.FNil)
	integer = num(1)
)

func fn(name string, list bool, body api.Node, params ...api.Param) api.Func {
	return api.Func{Name: name, Params: params, List: list, Body: body}
}

func length() api.Func {
	return fn("len", false, node(api.FIf, node(api.FNull, ref("xs")), num(0), op(api.Add, num(1), call("len", node(api.FTail, ref("xs"))))), xs)
}

func TestValidLibraries(t *testing.T) {
	for _, lib := range [][]api.Func{
		nil, {length()},
		{fn("f", true, call("h", ref("x")), x), fn("h", true, node(api.FCons, ref("x"), null), x), length()},
		{fn("f", false, let("y", ref("xs"), let("z", node(api.FHead, ref("y")), op(api.Mul, ref("z"), ref("z")))), xs)},
		{fn("abcdefghijkl", false, op(api.Add, let("y", num(1), ref("y")), let("y", null, node(api.FNull, ref("y")))))},
		{fn("x", false, call("x", ref("x")), x)},
		{fn("f", false, integer, eight()...)},
	} {
		if i, e := fun.Valid(lib); i != -1 || e != api.OK {
			t.Error(lib, i, e)
		}
		slices.Reverse(lib)
		if i, e := fun.Valid(lib); i != -1 || e != api.OK {
			t.Error("permutation", lib, i, e)
		}
	}
}

func eight() []api.Param {
	var l []api.Param
	for _, c := range "abcdefhi" {
		l = append(l, api.Param{Name: string(c)})
	}
	return l
}

func TestInvalidFunctions(t *testing.T) {
	chain := num(1)
	for range 79 {
		chain = op(api.Add, chain, num(1))
	}
	wide := call("wide")
	for range 1999 {
		wide.Kids = append(wide.Kids, num(1))
	}
	big := wide
	big.Kids = append(slices.Clone(wide.Kids), num(1))
	for i, c := range []struct {
		f    api.Func
		want api.Errno
	}{
		{fn("", false, integer), api.ErrForm}, {fn("F", false, integer), api.ErrForm}, {fn("f1", false, integer), api.ErrForm}, {fn("if", false, integer), api.ErrForm}, {fn("abcdefghijklm", false, integer), api.ErrForm},
		{fn("lcopy", false, integer), api.ErrForm}, {fn("lspill", false, integer), api.ErrForm}, {fn("out", false, integer), api.ErrForm}, {fn("g", false, integer), api.ErrForm}, {fn("len", false, integer), api.ErrTwice},
		{fn("f", false, integer, slices.Repeat([]api.Param{x}, 9)...), api.ErrFull}, {fn("f", false, integer, x, x, api.Param{Name: "out"}), api.ErrForm}, {fn("f", false, integer, x, api.Param{Name: "x", List: true}), api.ErrTwice},
		{fn("f", false, api.Node{}), api.ErrForm}, {fn("f", false, num(-1)), api.ErrForm}, {fn("f", false, let("g", integer, integer)), api.ErrForm}, {fn("f", false, let("x1", integer, integer)), api.ErrForm}, {fn("f", false, let("top", integer, integer)), api.ErrForm},
		{fn("f", false, chain), api.OK}, {fn("f", false, op(api.Add, chain, num(1))), api.ErrDepth}, {fn("f", false, wide), api.ErrName}, {fn("f", false, big), api.ErrFull},
		{fn("f", false, ref("y"), x), api.ErrName}, {fn("f", false, call("none")), api.ErrName}, {fn("f", false, call("len")), api.ErrType}, {fn("f", false, call("len", null, null)), api.ErrType}, {fn("f", false, call("len", integer)), api.ErrType},
		{fn("f", false, null), api.ErrType}, {fn("f", true, integer), api.ErrType}, {fn("f", false, let("x", integer, integer), x), api.ErrTwice}, {fn("f", false, let("y", integer, let("y", integer, integer))), api.ErrTwice},
		{fn("f", false, let("y", ref("y"), integer)), api.ErrName}, {fn("f", false, op(api.Add, let("y", integer, integer), ref("y"))), api.ErrName},
	} {
		lib := []api.Func{length(), c.f}
		at, e := fun.Valid(lib)
		if e != c.want || at != 1 && e != api.OK {
			t.Errorf("case %d: %d, %d", i, at, e)
		}
	}
	var lib []api.Func
	for i := range 31 {
		lib = append(lib, fn("f"+string(rune('a'+i/26))+string(rune('a'+i%26)), false, integer))
	}
	if at, e := fun.Valid(lib[:30]); at != -1 || e != api.OK {
		t.Error(at, e)
	}
	lib[30].Name = "lcopy"
	if at, e := fun.Valid(lib); at != 30 || e != api.ErrFull {
		t.Error(at, e)
	}
	lib[3].Name = "X"
	if at, e := fun.Valid(lib); at != 3 || e != api.ErrForm {
		t.Error("the first invalid function", at, e)
	}
}

func TestForms(t *testing.T) {
	lib := []api.Func{length()}
	for _, n := range []api.Node{num(0), ref("xs"), op(api.Either, integer, integer), node(api.FIf, integer, integer, integer), let("y", integer, integer), call("len", null), null, node(api.FCons, integer, null), node(api.FHead, null), node(api.FTail, null), node(api.FNull, null)} {
		if _, e := fun.Type(lib, 0, n); e != api.OK {
			t.Error(n, e)
		}
		variants := []api.Node{n, n, n, n, n}
		variants[0].Kids = append(slices.Clone(n.Kids), integer)
		variants[1].Num = -1
		variants[2].Kind = 79
		variants[3].Name = "other name"
		variants[4].Num = n.Num + 1
		for i, v := range variants {
			_, e := fun.Type(lib, 0, v)
			named := n.Kind == api.FVar || n.Kind == api.FCall
			switch {
			case i == 0 && n.Kind == api.FCall:
				if e != api.ErrType {
					t.Error(v, e)
				}
			case i == 3 && named:
				if e != api.ErrName {
					t.Error(v, e)
				}
			case i == 4 && n.Kind == api.FNum:
				if e != api.OK {
					t.Error(v, e)
				}
			case e != api.ErrForm:
				t.Error(i, v, e)
			}
		}
		if len(n.Kids) > 0 && n.Kind != api.FCall {
			n.Kids = n.Kids[1:]
			if _, e := fun.Type(lib, 0, n); e != api.ErrForm {
				t.Error(n, e)
			}
		}
	}
	if _, e := fun.Type(lib, 0, api.Node{Kind: api.FOp, Num: int(api.Not), Kids: []api.Node{integer, integer}}); e != api.ErrForm {
		t.Error(e)
	}
	if _, e := fun.Type(lib, 0, node(api.FNull+1)); e != api.ErrForm {
		t.Error(e)
	}
}

func TestType(t *testing.T) {
	lib := []api.Func{fn("f", true, null, x, xs), fn("h", false, integer, api.Param{Name: "x"}, api.Param{Name: "x", List: true})}
	a, l := ref("x"), ref("xs")
	for i, c := range []struct {
		n    api.Node
		list bool
		e    api.Errno
	}{
		{integer, false, api.OK}, {a, false, api.OK}, {l, true, api.OK}, {null, true, api.OK}, {op(api.Add, a, integer), false, api.OK}, {op(api.Add, a, l), false, api.ErrType}, {op(api.Add, l, a), false, api.ErrType},
		{node(api.FIf, a, l, null), true, api.OK}, {node(api.FIf, a, a, a), false, api.OK}, {node(api.FIf, l, a, a), false, api.ErrType}, {node(api.FIf, a, l, a), false, api.ErrType}, {node(api.FIf, a, a, l), false, api.ErrType},
		{let("y", l, ref("y")), true, api.OK}, {let("y", a, l), true, api.OK}, {let("y", l, op(api.Add, ref("y"), a)), false, api.ErrType},
		{call("f", a, l), true, api.OK}, {call("f", l, l), false, api.ErrType}, {call("f", a, a), false, api.ErrType}, {call("h", a, l), false, api.OK},
		{node(api.FCons, a, l), true, api.OK}, {node(api.FCons, l, l), false, api.ErrType}, {node(api.FCons, a, a), false, api.ErrType},
		{node(api.FHead, l), false, api.OK}, {node(api.FTail, l), true, api.OK}, {node(api.FNull, l), false, api.OK}, {node(api.FHead, a), false, api.ErrType}, {node(api.FTail, a), false, api.ErrType}, {node(api.FNull, a), false, api.ErrType},
		{op(api.Add, op(api.Add, a, l), ref("none")), false, api.ErrType}, {op(api.Add, l, ref("none")), false, api.ErrName}, {call("none", call("f")), false, api.ErrName}, {call("f", ref("none")), false, api.ErrType}, {op(api.Add, l, op(api.Add, integer, api.Node{})), false, api.ErrForm},
		{let("x", ref("none"), a), false, api.ErrTwice},
	} {
		if list, e := fun.Type(lib, 0, c.n); list != c.list || e != c.e {
			t.Errorf("case %d: %v, %d", i, list, e)
		}
	}
	if list, e := fun.Type(lib, 1, a); !list || e != api.OK {
		t.Error("the last parameter determines the type", e)
	}
	for _, f := range []int{-1, 2} {
		if list, e := fun.Type(lib, f, api.Node{}); list || e != api.ErrRange {
			t.Error(f, e)
		}
	}
}

func TestFindAndCalls(t *testing.T) {
	lib := []api.Func{fn("a", false, op(api.Add, call("b", call("c"), call("none", call("a"))), call("b"))), fn("b", false, ref("c")), fn("c", false, integer), fn("b", true, integer)}
	if fun.Find(lib, "b") != 1 || fun.Find(lib, "none") != -1 || fun.Find(nil, "") != -1 {
		t.Error("Find")
	}
	if l := fun.Calls(lib, 0); !slices.Equal(l, []int{1, 2, 0, 1}) {
		t.Error(l)
	}
	if len(fun.Calls(lib, 1)) != 0 || len(fun.Calls(lib, -1)) != 0 || len(fun.Calls(lib, 4)) != 0 {
		t.Error("no calls")
	}
	if l := fun.Calls([]api.Func{length()}, 0); !slices.Equal(l, []int{0}) {
		t.Error(l)
	}
}

func TestEqual(t *testing.T) {
	v := func(list bool, n int, l ...int) api.Value { return api.Value{List: list, N: n, L: l} }
	for i, c := range []struct {
		a, b api.Value
		want bool
	}{
		{v(false, 1), v(false, 1), true}, {v(false, 1, 5), v(false, 1, 6), true}, {v(false, 1), v(false, 2), false}, {v(false, 0), v(true, 0), false},
		{v(true, 1, 5, 6), v(true, 2, 5, 6), true}, {v(true, 0, 5, 6), v(true, 0, 6, 5), false}, {v(true, 0, 5), v(true, 0, 5, 6), false}, {v(true, 0), api.Value{List: true, L: []int{}}, true},
	} {
		if fun.Equal(c.a, c.b) != c.want || fun.Equal(c.b, c.a) != c.want {
			t.Error(i)
		}
	}
}
