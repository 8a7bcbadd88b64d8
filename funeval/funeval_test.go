package funeval_test

import (
	"slices"
	"testing"

	"backstep/api"
	"backstep/fun"
	"backstep/funeval"
	"backstep/funtext"
)

const much = 1 << 20

func parse(t *testing.T, s string) []api.Func {
	t.Helper()
	lib, pos, e := funtext.Parse(s)
	if e != api.OK {
		t.Fatal(s, pos, e)
	}
	return lib
}

// same compares call trees, with all fields of the values.
func same(a, b funeval.Tree) bool {
	values := func(x, y api.Value) bool { return x.List == y.List && x.N == y.N && slices.Equal(x.L, y.L) }
	return a.Func == b.Func && slices.EqualFunc(a.Args, b.Args, values) && values(a.Result, b.Result) && slices.EqualFunc(a.Calls, b.Calls, same)
}

func num(n int) api.Value     { return api.Value{N: n} }
func list(l ...int) api.Value { return api.Value{List: true, L: l} }

const text = `
proc len(stack xs) int { if !xs { 0 } else { 1 + len(pop(xs)) } }
proc app(stack xs, stack ys) stack { if !xs { ys } else { push(top(xs), app(pop(xs), ys)) } }
proc fib(int n) int { if n < 2 { n } else { fib(n - 1) + fib(n - 2) } }
proc div(int a, int b) int { local c = a * 2 { c / b } }
proc nest(int n) int { fib(fib(n)) + div(n, 1) }
proc deep(int n) int { if n == 0 { 0 } else { 1 + deep(n - 1) } }
proc spin(int n) int { spin(n) }
proc head(stack l) int { top(l) }
proc tail(stack l) stack { pop(l) }
proc cons(stack l) stack { push(7, l) }
proc lazy(int n) int { if n { 1 } else { 1 / 0 } }
proc none() stack { [] }
proc null(stack l) int { !l + 10 }
proc bad(int n) int { local c = 1 / n { 5 } }
proc test(int n) int { if 1 / n { 1 } else { 2 } }
`

func TestCall(t *testing.T) {
	lib := parse(t, text)
	for i, c := range []struct {
		name string
		args []api.Value
		want api.Value
		e    api.Errno
	}{
		{"len", []api.Value{list(7, 8)}, num(2), api.OK}, {"len", []api.Value{list()}, num(0), api.OK}, {"app", []api.Value{list(1, 2), list(3)}, list(1, 2, 3), api.OK}, {"fib", []api.Value{num(10)}, num(55), api.OK},
		{"div", []api.Value{num(7), num(3)}, num(4), api.OK}, {"div", []api.Value{num(7), num(0)}, num(0), api.ErrDivide}, {"nest", []api.Value{num(5)}, num(15), api.OK}, {"deep", []api.Value{num(29)}, num(29), api.OK}, {"deep", []api.Value{num(30)}, num(0), api.ErrDepth},
		{"spin", []api.Value{num(1)}, num(0), api.ErrDepth}, {"head", []api.Value{list(4, 5)}, num(4), api.OK}, {"head", []api.Value{list()}, num(0), api.ErrEmpty}, {"tail", []api.Value{list(4, 5)}, list(5), api.OK}, {"tail", []api.Value{list()}, num(0), api.ErrEmpty},
		{"cons", []api.Value{list(make([]int, 999)...)}, list(append([]int{7}, make([]int, 999)...)...), api.OK}, {"cons", []api.Value{list(make([]int, 1000)...)}, num(0), api.ErrFull}, {"lazy", []api.Value{num(2)}, num(1), api.OK}, {"lazy", []api.Value{num(0)}, num(0), api.ErrDivide}, {"none", nil, list(), api.OK}, {"null", []api.Value{list()}, num(11), api.OK}, {"null", []api.Value{list(0)}, num(10), api.OK},
		{"head", []api.Value{list(make([]int, 1000)...)}, num(0), api.OK}, {"bad", []api.Value{num(0)}, num(0), api.ErrDivide}, {"test", []api.Value{num(0)}, num(0), api.ErrDivide}, {"test", []api.Value{num(2)}, num(2), api.OK},
		{"missing", nil, num(0), api.ErrNone}, {"len", nil, num(0), api.ErrType}, {"len", []api.Value{num(1)}, num(0), api.ErrType}, {"fib", []api.Value{list()}, num(0), api.ErrType}, {"fib", []api.Value{num(1), num(1)}, num(0), api.ErrType},
		{"app", []api.Value{list(make([]int, 1001)...), num(1)}, num(0), api.ErrType}, {"app", []api.Value{list(make([]int, 1001)...), list()}, num(0), api.ErrFull}, {"fib", []api.Value{{N: 3, L: []int{1, 2}}}, num(2), api.OK}, {"tail", []api.Value{{List: true, N: 9, L: []int{1, 2}}}, list(2), api.OK},
	} {
		got, e := funeval.Call(lib, c.name, c.args, much)
		if e != c.e || !fun.Equal(got, c.want) || e != api.OK && got.List || got.List && got.N != 0 || !got.List && len(got.L) != 0 {
			t.Errorf("case %d: %v, %d", i, got, e)
		}
		tree, e := funeval.Trace(lib, c.name, c.args, much)
		if e != c.e || e == api.OK && !fun.Equal(tree.Result, c.want) || e != api.OK && !same(tree, funeval.Tree{}) {
			t.Errorf("case %d: %v, %d", i, tree, e)
		}
		reversed := slices.Clone(lib)
		slices.Reverse(reversed)
		if again, e2 := funeval.Call(reversed, c.name, c.args, much); e2 != c.e || !fun.Equal(again, c.want) {
			t.Errorf("case %d depends on the order of the library", i)
		}
	}
	if _, e := funeval.Call([]api.Func{{Name: "X"}}, "none", nil, much); e != api.ErrForm {
		t.Error(e)
	}
	if _, e := funeval.Trace([]api.Func{{Name: "X"}}, "none", nil, much); e != api.ErrForm {
		t.Error(e)
	}
}

func TestFuel(t *testing.T) {
	lib := parse(t, "proc f(int x) int { if x { x + 1 } else { h(local y = 2 { y }) } } proc h(int x) int { x } proc l() stack { push(1, []) } proc d(int x) int { 1 / x } proc r(int x) int { r(x) }")
	for _, c := range []struct {
		name  string
		args  []api.Value
		nodes int
		want  api.Errno
	}{{"f", []api.Value{num(1)}, 5, api.OK}, {"f", []api.Value{num(0)}, 7, api.OK}, {"l", nil, 3, api.OK}, {"d", []api.Value{num(0)}, 3, api.ErrDivide}, {"r", []api.Value{num(0)}, 60, api.ErrDepth}} {
		for fuel := -1; fuel < c.nodes; fuel++ {
			if _, e := funeval.Call(lib, c.name, c.args, fuel); e != api.ErrFuel {
				t.Error(c, fuel, e)
			}
			if _, e := funeval.Trace(lib, c.name, c.args, fuel); e != api.ErrFuel {
				t.Error(c, fuel, e)
			}
		}
		if _, e := funeval.Call(lib, c.name, c.args, c.nodes); e != c.want {
			t.Error(c, e)
		}
	}
}

func TestNewMemory(t *testing.T) {
	lib := parse(t, "proc id(stack l) stack { l } proc two(stack l) stack { id(id(l)) }")
	arg := []int{1, 2}
	v, _ := funeval.Call(lib, "id", []api.Value{list(arg...)}, much)
	v.L[0] = 99
	tree, _ := funeval.Trace(lib, "two", []api.Value{{List: true, L: arg}}, much)
	tree.Result.L[0], tree.Args[0].L[0], tree.Calls[0].Args[0].L[0] = 97, 98, 96
	if !slices.Equal(arg, []int{1, 2}) || !slices.Equal(tree.Calls[0].Result.L, []int{1, 2}) || !slices.Equal(tree.Calls[1].Args[0].L, []int{1, 2}) {
		t.Error("results share memory", arg, tree)
	}
}

func TestTrace(t *testing.T) {
	lib := parse(t, text)
	tree, e := funeval.Trace(lib, "len", []api.Value{list(7, 8)}, much)
	want := funeval.Tree{Func: 0, Args: []api.Value{list(7, 8)}, Result: num(2), Calls: []funeval.Tree{
		{Func: 0, Args: []api.Value{list(8)}, Result: num(1), Calls: []funeval.Tree{{Func: 0, Args: []api.Value{list([]int{}...)}, Result: num(0)}}},
	}}
	if e != api.OK || !same(tree, want) || funeval.Steps(tree) != 3 || funeval.Height(tree) != 3 {
		t.Error(tree, e)
	}
	tree, _ = funeval.Trace(lib, "nest", []api.Value{num(3)}, much)
	var order []int
	for _, c := range tree.Calls {
		order = append(order, c.Func*100+c.Args[0].N)
	}
	if !slices.Equal(order, []int{203, 202, 303}) {
		t.Error("calls inside of arguments come first", order)
	}
	check(t, lib, tree)
	if funeval.Steps(funeval.Tree{}) != 1 || funeval.Height(funeval.Tree{}) != 1 {
		t.Error("a single node")
	}
	tree, _ = funeval.Trace(lib, "fib", []api.Value{num(5)}, much)
	if funeval.Steps(tree) != 15 || funeval.Height(tree) != 5 {
		t.Error(funeval.Steps(tree), funeval.Height(tree))
	}
	tree, _ = funeval.Trace(lib, "deep", []api.Value{num(29)}, much)
	if funeval.Height(tree) != api.MaxRec {
		t.Error(funeval.Height(tree))
	}
}

// check compares every subtree with the call tree of its own call.
func check(t *testing.T, lib []api.Func, tree funeval.Tree) {
	t.Helper()
	again, e := funeval.Trace(lib, lib[tree.Func].Name, tree.Args, much)
	if e != api.OK || !same(again, tree) {
		t.Error(again, tree)
	}
	for _, c := range tree.Calls {
		check(t, lib, c)
	}
}
