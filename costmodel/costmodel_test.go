package costmodel_test

import (
	"slices"
	"testing"

	"backstep/api"
	"backstep/ast"
	"backstep/bennett"
	"backstep/build"
	"backstep/costmodel"
	"backstep/fun"
	"backstep/funeval"
	"backstep/funtext"
	"backstep/internal/functions"
	"backstep/interp"
	"backstep/keepgen"
	"backstep/scope"
	"backstep/trace"
)

const much = 1 << 22

func parse(t *testing.T, s string) []api.Func {
	t.Helper()
	lib, pos, e := funtext.Parse(s)
	if e != api.OK {
		t.Fatal(s, pos, e)
	}
	return lib
}

func num(n int) api.Value     { return api.Value{N: n} }
func list(l ...int) api.Value { return api.Value{List: true, L: l} }

func TestExample(t *testing.T) {
	lib := parse(t, "proc len(stack xs) int { if !xs { 0 } else { 1 + len(pop(xs)) } }")
	for _, c := range []struct {
		kept        []string
		calls, keep int
		garbage     int
	}{{nil, 7, 0, 0}, {[]string{"len"}, 1, 4, 14}} {
		got, e := costmodel.Predict(lib, "len", c.kept, []api.Value{list(7, 8)}, much)
		if e != api.OK || !slices.Equal(got.Calls, []int{c.calls}) || !slices.Equal(got.Kept, []int{c.keep}) || got.Garbage != c.garbage {
			t.Error(got, e)
		}
	}
}

func TestErrors(t *testing.T) {
	lib := parse(t, "proc f(int x) int { 1 / x } proc h(int x) int { f(x) }")
	for i, c := range []struct {
		lib  []api.Func
		name string
		kept []string
		args []api.Value
		fuel int
		want api.Errno
	}{
		{[]api.Func{{Name: "f", Params: make([]api.Param, 9)}}, "none", nil, nil, 0, api.ErrFull}, {lib, "none", []string{"f", "f"}, nil, 0, api.ErrNone}, {lib, "f", []string{"f", "f", "none"}, nil, 0, api.ErrNone}, {lib, "f", []string{"f", "f"}, nil, 0, api.ErrTwice},
		{lib, "f", nil, nil, much, api.ErrType}, {lib, "f", nil, []api.Value{num(0)}, much, api.ErrDivide}, {lib, "f", []string{"f"}, []api.Value{num(1)}, 2, api.ErrFuel}, {lib, "f", []string{"f"}, []api.Value{num(1)}, 3, api.OK},
	} {
		got, e := costmodel.Predict(c.lib, c.name, c.kept, c.args, c.fuel)
		if e != c.want || e != api.OK && (len(got.Calls) != 0 || len(got.Kept) != 0 || got.Garbage != 0) {
			t.Errorf("case %d: %v, %d", i, got, e)
		}
	}
}

func TestTotalAndBetter(t *testing.T) {
	a := costmodel.Cost{Calls: []int{1, 2}, Kept: []int{3}, Garbage: 5}
	b := costmodel.Cost{Calls: []int{6}, Garbage: 4}
	c := costmodel.Cost{Calls: []int{7}, Garbage: 0}
	if costmodel.Total(a) != 6 || costmodel.Total(costmodel.Cost{}) != 0 {
		t.Error("Total")
	}
	if costmodel.Better(a, b) || !costmodel.Better(b, a) || !costmodel.Better(a, c) || costmodel.Better(c, a) || costmodel.Better(a, a) {
		t.Error("Better")
	}
}

// subsets returns some sets of functions, each of which contains the previous one.
func subsets(lib []api.Func) [][]string {
	sets := [][]string{nil}
	for i := range lib {
		name := lib[(i*7+2)%len(lib)].Name
		sets = append(sets, append(slices.Clone(sets[i]), name))
	}
	return sets
}

func TestPredictionsAreExact(t *testing.T) {
	lib := parse(t, functions.Text)
	for _, c := range functions.Calls() {
		tree, e := funeval.Trace(lib, c.Name, c.Args, much)
		if e != api.OK {
			continue
		}
		var before costmodel.Cost
		sets := subsets(lib)
		for i, kept := range sets {
			got, e := costmodel.Predict(lib, c.Name, kept, c.Args, much)
			if e != api.OK || len(got.Calls) != len(lib) || len(got.Kept) != len(lib) {
				t.Fatal(c, kept, e)
			}
			compare(t, lib, c, kept, got)
			if i > 0 && (costmodel.Total(got) > costmodel.Total(before) || got.Garbage < before.Garbage) {
				t.Error("keeping more", c, kept, got, before)
			}
			before = got
		}
		if nodes := funeval.Steps(tree); costmodel.Total(before) != 2*nodes-1 {
			t.Error("everything is kept", c, before, nodes)
		}
		none, _ := costmodel.Predict(lib, c.Name, nil, c.Args, much)
		if costmodel.Total(none) != weight(tree, 1) || none.Garbage != 0 {
			t.Error("nothing is kept", c, none)
		}
	}
}

// weight sums the powers of 2 of the distances from the root.
func weight(t funeval.Tree, power int) int {
	sum := power
	for _, c := range t.Calls {
		sum += weight(c, 2*power)
	}
	return sum
}

// compare compares a prediction with a run of the program.
func compare(t *testing.T, lib []api.Func, c functions.Call, kept []string, cost costmodel.Cost) {
	t.Helper()
	p, e := bennett.Program(lib, c.Name, kept)
	if e != api.OK {
		t.Fatal(e)
	}
	s, _ := bennett.Input(lib, c.Name, c.Args)
	entered, r := interp.Profile(p, s, much)
	if r.Err != api.OK {
		t.Fatal(c, r.Err)
	}
	for i, proc := range p.Procs[2:] {
		want := 0
		if f := fun.Find(lib, proc.Name); f >= 0 {
			want = cost.Calls[f]
		} else {
			for f := range lib {
				if keepgen.Name(lib[f].Name) == proc.Name {
					want = cost.Kept[f]
				}
			}
		}
		if entered[i+2] != want {
			t.Fatal(c, kept, proc.Name, entered[i+2], want)
		}
	}
}

func TestGarbageIsExact(t *testing.T) {
	lib := parse(t, functions.Text)
	for _, c := range functions.Calls() {
		for _, kept := range subsets(lib) {
			cost, e := costmodel.Predict(lib, c.Name, kept, c.Args, much)
			if e != api.OK {
				continue
			}
			p, _ := bennett.Program(lib, c.Name, kept)
			s, _ := bennett.Input(lib, c.Name, c.Args)
			if most := greatestStack(t, p, c.Name, s); most != cost.Garbage {
				t.Fatal(c, kept, most, cost.Garbage)
			}
		}
	}
}

// greatestStack runs a copy of the clean procedure whose garbage stack is a global variable, and observes it.
func greatestStack(t *testing.T, p api.Program, name string, s api.State) int {
	t.Helper()
	root := p.Procs[scope.Proc(p, name)]
	root.Body = ast.Clone(root.Body)
	body := &root.Body
	for len(body.Kids) == 1 && (body.Kids[0].Kind == api.Local || body.Kids[0].Kind == api.LocalStack && body.Kids[0].Name != "g") {
		body = &body.Kids[0].Kids[len(body.Kids[0].Kids)/2]
	}
	if len(body.Kids) != 1 || body.Kids[0].Kind != api.LocalStack {
		return 0
	}
	*body = body.Kids[0].Kids[0]
	root.Name, root.Params = "root", append(slices.Clone(root.Params), build.Decl("g", true))
	p.Procs = append(p.Procs, root)
	p.Vars = append(slices.Clone(p.Vars), build.Decl("g", true))
	p.Main.Kids[0].Name = "root"
	p.Main.Kids[0].Kids = append(p.Main.Kids[0].Kids, build.Ref("g"))
	s.Cells = append(s.Cells, nil)
	events, e := trace.Of(p, s, much)
	if e != api.OK {
		t.Fatal(e)
	}
	c, _ := trace.New(s, events)
	most := 0
	for c.Next() {
		most = max(most, len(c.State().Cells[len(s.Cells)-1]))
	}
	return most
}
