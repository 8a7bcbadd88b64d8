package anf_test

import (
	"slices"
	"testing"

	"backstep/anf"
	"backstep/api"
	"backstep/fun"
	"backstep/funeval"
	"backstep/funtext"
)

const much = 1 << 20

func parse(t *testing.T, s string) []api.Func {
	t.Helper()
	lib, pos, e := funtext.Parse(s)
	if e != api.OK {
		t.Fatal(s, pos, e)
	}
	return lib
}

func normalize(t *testing.T, s string) []anf.Func {
	t.Helper()
	l, e := anf.Normalize(parse(t, s))
	if e != api.OK {
		t.Fatal(e)
	}
	return l
}

func num(to string, n int) anf.Bind { return anf.Bind{To: to, Op: api.FNum, Num: n} }
func cp(to, from string, list bool) anf.Bind {
	return anf.Bind{To: to, Op: api.FVar, List: list, Args: []string{from}}
}
func op(to string, k byte, a, b string) anf.Bind {
	return anf.Bind{To: to, Op: api.FOp, Num: int(k), Args: []string{a, b}}
}
func call(to, f string, list bool, args ...string) anf.Bind {
	return anf.Bind{To: to, Op: api.FCall, Name: f, List: list, Args: args}
}
func temps(types string) []api.Param {
	var l []api.Param
	for i, c := range types {
		l = append(l, api.Param{Name: "t" + string(rune('0'+i)), List: c == 'l'})
	}
	return l
}

func same(a, b anf.Bind) bool {
	return a.To == b.To && a.List == b.List && a.Op == b.Op && a.Num == b.Num && a.Name == b.Name && slices.Equal(a.Args, b.Args) && slices.EqualFunc(a.Then, b.Then, same) && slices.EqualFunc(a.Else, b.Else, same)
}

func TestNormalize(t *testing.T) {
	lib := normalize(t, `
proc f(int x, int y) int { x + f(x, 1) }
proc id(int x) int { x }
proc let(int x) int { local y = x { local z = y * y { z - y } } }
proc lists(stack l) stack { push(top(l), pop(if !l { [] } else { l })) }
proc copies(int x, stack l) stack { copies(local a = x { a }, l) }
proc values(int x) int { id(local a = 2 { a }) + id(id(x)) }
proc both(int x) int { if x { if x { 1 } else { x } } else { 2 } }
`)
	for i, want := range []anf.Func{
		{Temps: temps("iiii"), Result: "t3", Body: []anf.Bind{cp("t0", "x", false), num("t1", 1), call("t2", "f", false, "t0", "t1"), op("t3", api.Add, "x", "t2")}},
		{Result: "x"},
		{Temps: temps("ii"), Result: "t1", Body: []anf.Bind{op("t0", api.Mul, "x", "x"), op("t1", api.Sub, "t0", "x")}},
		{Temps: temps("iillll"), Result: "t5", Body: []anf.Bind{
			{To: "t0", Op: api.FHead, Args: []string{"l"}}, {To: "t1", Op: api.FNull, Args: []string{"l"}},
			{To: "t2", List: true, Op: api.FIf, Args: []string{"t1"}, Then: []anf.Bind{{To: "t3", List: true, Op: api.FNil}, cp("t2", "t3", true)}, Else: []anf.Bind{cp("t2", "l", true)}},
			{To: "t4", List: true, Op: api.FTail, Args: []string{"t2"}}, {To: "t5", List: true, Op: api.FCons, Args: []string{"t0", "t4"}},
		}},
		{Temps: temps("ill"), Result: "t2", Body: []anf.Bind{cp("t0", "x", false), cp("t1", "l", true), call("t2", "copies", true, "t0", "t1")}},
		{Temps: temps("iiiiiii"), Result: "t6", Body: []anf.Bind{num("t0", 2), cp("t1", "t0", false), call("t2", "id", false, "t1"), cp("t3", "x", false), call("t4", "id", false, "t3"), call("t5", "id", false, "t4"), op("t6", api.Add, "t2", "t5")}},
		{Temps: temps("iiii"), Result: "t0", Body: []anf.Bind{{To: "t0", Op: api.FIf, Args: []string{"x"},
			Then: []anf.Bind{{To: "t1", Op: api.FIf, Args: []string{"x"}, Then: []anf.Bind{num("t2", 1), cp("t1", "t2", false)}, Else: []anf.Bind{cp("t1", "x", false)}}, cp("t0", "t1", false)},
			Else: []anf.Bind{num("t3", 2), cp("t0", "t3", false)}}}},
	} {
		got := lib[i]
		if !slices.Equal(got.Temps, want.Temps) || got.Result != want.Result || !slices.EqualFunc(got.Body, want.Body, same) {
			t.Errorf("%s:\n%v\n%v", got.Name, got, want)
		}
	}
	source := parse(t, "proc f(int x, stack l) stack { l }")
	l, _ := anf.Normalize(source)
	if l[0].Name != "f" || !slices.Equal(l[0].Params, source[0].Params) || !l[0].List {
		t.Error(l)
	}
	l[0].Params[0].Name = "changed"
	if source[0].Params[0].Name != "x" {
		t.Error("the result shares memory with the argument")
	}
	for _, bad := range [][]api.Func{{{Name: "f"}}, {{Name: "f", Body: api.Node{Kind: api.FVar, Name: "x"}}}} {
		_, want := fun.Valid(bad)
		if l, e := anf.Normalize(bad); len(l) != 0 || e != want {
			t.Error(l, e)
		}
	}
	if l, e := anf.Normalize(nil); len(l) != 0 || e != api.OK {
		t.Error(l, e)
	}
}

// sample is a valid library with most operations, built by hand with unusual names.
func sample() []anf.Func {
	return []anf.Func{
		{Name: "", Params: []api.Param{{Name: "X"}, {Name: "", List: true}}, List: true, Temps: []api.Param{{Name: "a"}, {Name: "b", List: true}, {Name: "c"}, {Name: "d", List: true}}, Result: "d",
			Body: []anf.Bind{cp("a", "X", false), cp("b", "", true),
				{To: "d", List: true, Op: api.FIf, Args: []string{"X"}, Then: []anf.Bind{op("c", api.Add, "a", "X"), {To: "d", List: true, Op: api.FCons, Args: []string{"c", "b"}}}, Else: []anf.Bind{call("d", "", true, "a", "b")}},
			}},
	}
}

func TestValid(t *testing.T) {
	if !anf.Valid(nil) || !anf.Valid(sample()) {
		t.Fatal("valid libraries")
	}
	for title, change := range map[string]func(f *anf.Func){
		"same names":               func(f *anf.Func) { f.Temps[2].Name = "X" },
		"same parameters":          func(f *anf.Func) { f.Params[1].Name = "X" },
		"same temporaries":         func(f *anf.Func) { f.Temps[2].Name = "a" },
		"unbound temporary":        func(f *anf.Func) { f.Temps = append(f.Temps, api.Param{Name: "e"}) },
		"unknown temporary":        func(f *anf.Func) { f.Body[0].To = "e" },
		"parameter bound":          func(f *anf.Func) { f.Body[0].To = "X" },
		"bound twice":              func(f *anf.Func) { f.Body = slices.Insert(f.Body, 1, f.Body[0]) },
		"wrong temporary type":     func(f *anf.Func) { f.Temps[0].List = true },
		"wrong List":               func(f *anf.Func) { f.Body[0].List = true },
		"result not in scope":      func(f *anf.Func) { f.Result = "c" },
		"no result":                func(f *anf.Func) { f.Result = "e" },
		"wrong result type":        func(f *anf.Func) { f.Result = "a" },
		"argument not in scope":    func(f *anf.Func) { f.Body[0].Args[0] = "c" },
		"argument type":            func(f *anf.Func) { f.Body[0].Args[0] = "" },
		"two arguments":            func(f *anf.Func) { f.Body[0].Args = []string{"X", "X"} },
		"no argument":              func(f *anf.Func) { f.Body[0].Args = nil },
		"unused number":            func(f *anf.Func) { f.Body[0].Num = 1 },
		"unused name":              func(f *anf.Func) { f.Body[0].Name = "x" },
		"unused branch":            func(f *anf.Func) { f.Body[0].Then = []anf.Bind{num("c", 1)} },
		"unknown operation":        func(f *anf.Func) { f.Body[0].Op = 3 },
		"let":                      func(f *anf.Func) { f.Body[0].Op = api.FLet },
		"unknown operator":         func(f *anf.Func) { f.Body[2].Then[0].Num = int(api.Not) },
		"operator on lists":        func(f *anf.Func) { f.Body[2].Then[0].Args[0] = "b" },
		"cons of lists":            func(f *anf.Func) { f.Body[2].Then[1].Args[0] = "b" },
		"condition is a list":      func(f *anf.Func) { f.Body[2].Args[0] = "b" },
		"two conditions":           func(f *anf.Func) { f.Body[2].Args = []string{"X", "X"} },
		"number in FIf":            func(f *anf.Func) { f.Body[2].Num = 1 },
		"empty branch":             func(f *anf.Func) { f.Body[2].Else = nil },
		"branch without last bind": func(f *anf.Func) { f.Body[2].Then = f.Body[2].Then[:1] },
		"branch binds twice":       func(f *anf.Func) { f.Body[2].Else = []anf.Bind{f.Body[2].Else[0], f.Body[2].Else[0]} },
		"branch uses the other":    func(f *anf.Func) { f.Body[2].Else = []anf.Bind{call("d", "", true, "c", "b")} },
		"unknown function":         func(f *anf.Func) { f.Body[2].Else[0].Name = "h" },
		"call with a parameter":    func(f *anf.Func) { f.Body[2].Else[0].Args[0] = "X" },
		"call argument types":      func(f *anf.Func) { f.Body[2].Else[0].Args = []string{"b", "a"} },
		"call argument count":      func(f *anf.Func) { f.Body[2].Else[0].Args = []string{"a"} },
		"call with number":         func(f *anf.Func) { f.Body[2].Else[0].Num = 1 },
		"nine parameters": func(f *anf.Func) {
			for _, c := range "ABCDEFG" {
				f.Params = append(f.Params, api.Param{Name: string(c)})
				f.Body[2].Else = []anf.Bind{{To: "d", List: true, Op: api.FNil}}
			}
		},
	} {
		lib := sample()
		change(&lib[0])
		if anf.Valid(lib) {
			t.Error(title)
		}
		if v, e := anf.Eval(lib, "none", nil, -1); e != api.ErrForm || v.List {
			t.Error(title, e)
		}
	}
}

func TestValidLibraries(t *testing.T) {
	f := func(name string) anf.Func {
		return anf.Func{Name: name, Params: []api.Param{{Name: "x"}}, Result: "x"}
	}
	var many []anf.Func
	for i := range 31 {
		many = append(many, f(string(rune('A'+i))))
	}
	if !anf.Valid(many[:30]) || anf.Valid(many) || anf.Valid([]anf.Func{f("a"), f("b"), f("a")}) {
		t.Error("number and names of functions")
	}
	wide := func(n int) anf.Func {
		w := anf.Func{Result: "A"}
		for i := range n {
			w.Params = append(w.Params, api.Param{Name: string(rune('A' + i))})
		}
		return w
	}
	if !anf.Valid([]anf.Func{wide(8)}) || anf.Valid([]anf.Func{wide(9)}) {
		t.Error("number of parameters")
	}
	sameParams := wide(2)
	sameParams.Params[1].Name = "A"
	sameTemps := anf.Func{Temps: []api.Param{{Name: "t0"}, {Name: "t0"}}, Body: []anf.Bind{num("t0", 1)}, Result: "t0"}
	if anf.Valid([]anf.Func{sameParams}) || anf.Valid([]anf.Func{sameTemps}) {
		t.Error("same names")
	}
	calls := wide(2)
	calls.Temps, calls.Result = temps("iiii"), "t3"
	calls.Body = []anf.Bind{num("t0", 1), op("t1", api.Either, "t0", "A"), call("t2", "", false, "t0", "t1"), call("t3", "", false, "t1", "t2")}
	if !anf.Valid([]anf.Func{calls}) {
		t.Error("calls")
	}
	calls.Body[3].Args[0] = "t2"
	if anf.Valid([]anf.Func{calls}) {
		t.Error("equal arguments")
	}
	calls.Body[3] = anf.Bind{To: "t3", Op: api.FNum, Then: []anf.Bind{num("t3", 1)}, Else: []anf.Bind{num("t3", 1)}}
	if anf.Valid([]anf.Func{calls}) {
		t.Error("branches of a number")
	}
	twice := anf.Func{Name: "f", Params: []api.Param{{Name: "x"}}, Temps: temps("iii"), Result: "t0", Body: []anf.Bind{
		{To: "t0", Op: api.FIf, Args: []string{"x"}, Then: []anf.Bind{num("t1", 1), cp("t0", "t1", false)}, Else: []anf.Bind{num("t1", 2), cp("t0", "t1", false)}}, num("t2", 5)}}
	if anf.Valid([]anf.Func{twice}) {
		t.Error("a temporary that is bound in both branches")
	}
	twice.Body[0].Else = []anf.Bind{{To: "t0", Op: api.FIf, Args: []string{"x"}, Then: []anf.Bind{num("t0", 4)}, Else: []anf.Bind{cp("t0", "x", false)}}}
	if !anf.Valid([]anf.Func{twice}) {
		t.Error("a branch that ends with a branch")
	}
}

const text = `
proc len(stack xs) int { if !xs { 0 } else { 1 + len(pop(xs)) } }
proc app(stack xs, stack ys) stack { if !xs { ys } else { push(top(xs), app(pop(xs), ys)) } }
proc fib(int n) int { if n < 2 { n } else { fib(n - 1) + fib(n - 2) } }
proc rev(stack xs, stack acc) stack { if !xs { acc } else { local h = top(xs) { rev(pop(xs), push(h, acc)) } } }
proc mix(int a, stack l) int { local b = a * a { if b > 10 { len(app(l, l)) / (b - 16) } else { top(rev(l, [])) % a } } }
proc deep(int n) int { if n == 0 { 0 } else { 1 + deep(n - 1) } }
proc cons(stack l) stack { push(7, l) }
proc late(int x, stack l) int { (if x { 1 } else { 2 }) * 10 + local y = if x { l } else { [] } { len(y) + top(if !y { push(x, y) } else { y }) } }
proc nul(stack l) int { !l }
proc ends(stack l) stack { push(top(l), pop(pop(l))) }
proc same(int a) int { fib(a) * fib(a) - mix(a, push(a, push(2, []))) }
`

func value(n int) api.Value   { return api.Value{N: n} }
func list(l ...int) api.Value { return api.Value{List: true, L: l} }

func TestEvalAgreesWithFuneval(t *testing.T) {
	lib := parse(t, text)
	normal := normalize(t, text)
	if !anf.Valid(normal) {
		t.Fatal("normalized libraries are valid")
	}
	type example struct {
		name string
		args []api.Value
	}
	cases := []example{{"len", []api.Value{list(1, 2, 3)}}, {"app", []api.Value{list(1, 2), list(3)}}, {"rev", []api.Value{list(1, 2, 3), list(9)}}, {"cons", []api.Value{list(make([]int, 1000)...)}}, {"cons", []api.Value{list(5)}}, {"deep", []api.Value{value(29)}}, {"deep", []api.Value{value(30)}}, {"rev", []api.Value{list(), list()}}}
	cases = append(cases, example{"late", []api.Value{value(0), list(8, 9)}}, example{"late", []api.Value{value(1), list(8, 9)}}, example{"late", []api.Value{value(1), list()}})
	for n := range 4 {
		cases = append(cases, example{"nul", []api.Value{list(make([]int, n)...)}}, example{"ends", []api.Value{list(make([]int, n)...)}})
	}
	for a := range 7 {
		cases = append(cases, example{"mix", []api.Value{value(a), list(3, 4)}}, example{"same", []api.Value{value(a)}})
	}
	for _, c := range cases {
		for fuel := 1; fuel < 4000; fuel += 1 + fuel/3 {
			want, e := funeval.Call(lib, c.name, c.args, fuel)
			if e == api.ErrFuel {
				continue
			}
			got, e2 := anf.Eval(normal, c.name, c.args, 2*fuel)
			if e2 != e || !fun.Equal(got, want) || got.List && got.N != 0 || !got.List && len(got.L) != 0 {
				t.Fatal(c, fuel, got, e2, want, e)
			}
		}
	}
}

func TestEval(t *testing.T) {
	lib := sample()
	if v, e := anf.Eval(lib, "", []api.Value{{N: 2, L: []int{1}}, {List: true, N: 3, L: []int{5}}}, 5); e != api.OK || !fun.Equal(v, list(4, 5)) || v.N != 0 {
		t.Error(v, e)
	}
	if v, e := anf.Eval(lib, "", []api.Value{value(2), list(5)}, 4); e != api.ErrFuel || v.List {
		t.Error(v, e)
	}
	if _, e := anf.Eval(lib, "", []api.Value{value(0), list(5)}, 1000); e != api.ErrDepth {
		t.Error(e)
	}
	if _, e := anf.Eval(lib, "", []api.Value{value(2), list(5)}, -5); e != api.ErrFuel {
		t.Error(e)
	}
	for _, c := range []struct {
		name string
		args []api.Value
		want api.Errno
	}{{"none", nil, api.ErrNone}, {"", nil, api.ErrType}, {"", []api.Value{list(), list()}, api.ErrType}, {"", []api.Value{value(1), value(1)}, api.ErrType}, {"", []api.Value{value(1), list(make([]int, 1001)...)}, api.ErrFull}, {"", []api.Value{value(1), list(make([]int, 1000)...)}, api.ErrFull}} {
		if v, e := anf.Eval(lib, c.name, c.args, much); e != c.want || v.List {
			t.Error(c.name, v, e)
		}
	}
	arg := []int{1, 2}
	id := []anf.Func{{Params: []api.Param{{Name: "l", List: true}}, List: true, Result: "l"}}
	if v, e := anf.Eval(id, "", []api.Value{list(make([]int, 1001)...)}, 0); e != api.ErrFull || v.List {
		t.Error(e)
	}
	if v, e := anf.Eval(id, "", []api.Value{list(make([]int, 1000)...)}, 0); e != api.OK || len(v.L) != 1000 {
		t.Error(e)
	}
	v, _ := anf.Eval(id, "", []api.Value{{List: true, L: arg}}, 0)
	v.L[0] = 9
	if arg[0] != 1 {
		t.Error("the result shares memory with the argument")
	}
}
