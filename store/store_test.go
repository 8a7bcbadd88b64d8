package store_test

import (
	"slices"
	"testing"

	"backstep/api"
	"backstep/parser"
	"backstep/state"
	"backstep/store"
)

var vars = []api.VarDecl{
	{Name: "x", Kind: api.Int}, {Name: "y", Kind: api.Int}, {Name: "a", Kind: api.Array, Len: 2}, {Name: "s", Kind: api.Stack}, {Name: "t", Kind: api.Stack},
}

func initial() api.State {
	return api.State{Cells: [][]int{{3}, {0}, {5, 6}, {}, {7, 8}}, In: []int{10, 11}, Out: []int{20, 21}}
}

func open(t *testing.T) *store.Store {
	t.Helper()
	st, e := store.New(vars, initial())
	if e != api.OK {
		t.Fatal(e)
	}
	return st
}

func stmt(t *testing.T, s string) api.Node {
	t.Helper()
	n, pos, e := parser.Block(s)
	if e != api.OK || len(n.Kids) != 1 {
		t.Fatalf("%q: %d, %d", s, pos, e)
	}
	return n.Kids[0]
}

func TestNewAndState(t *testing.T) {
	s := initial()
	st, e := store.New(vars, s)
	if e != api.OK || !state.Equal(st.State(), s) || st.Depth() != 0 {
		t.Fatal(e)
	}
	s.Cells[0][0], s.In[0] = 99, 99
	got := st.State()
	if !state.Equal(got, initial()) {
		t.Error("the store shares memory with the state")
	}
	got.Cells[2][0], got.Out[0] = 99, 99
	if !state.Equal(st.State(), initial()) {
		t.Error("the result shares memory with the store")
	}
	if st, e := store.New(vars, api.State{}); st != nil || e != api.ErrForm {
		t.Error(e)
	}
	if st, e := store.New([]api.VarDecl{{Kind: 9}}, api.State{Cells: [][]int{{}}}); st != nil || e != api.ErrForm {
		t.Error(e)
	}
}

func TestCell(t *testing.T) {
	st := open(t)
	l, ok := st.Cell("a")
	if !ok || !slices.Equal(l, []int{5, 6}) {
		t.Error(l, ok)
	}
	l[0] = 99
	if l, _ := st.Cell("a"); l[0] != 5 {
		t.Error("Cell shares memory")
	}
	if l, ok := st.Cell("z"); len(l) != 0 || ok {
		t.Error(l, ok)
	}
	twice := []api.VarDecl{{Name: "x", Kind: api.Int}, {Name: "x", Kind: api.Stack}}
	st, _ = store.New(twice, api.State{Cells: [][]int{{1}, {2, 3}}})
	if l, _ := st.Cell("x"); !slices.Equal(l, []int{2, 3}) {
		t.Error("the last declaration counts", l)
	}
}

func TestDo(t *testing.T) {
	for s, want := range map[string]struct {
		cells   [][]int
		in, out []int
	}{
		"x += a[1] * 2;":    {[][]int{{15}, {0}, {5, 6}, {}, {7, 8}}, []int{10, 11}, []int{20, 21}},
		"x -= top(t);":      {[][]int{{-5}, {0}, {5, 6}, {}, {7, 8}}, []int{10, 11}, []int{20, 21}},
		"x ^= 1;":           {[][]int{{2}, {0}, {5, 6}, {}, {7, 8}}, []int{10, 11}, []int{20, 21}},
		"x += x;":           {[][]int{{6}, {0}, {5, 6}, {}, {7, 8}}, []int{10, 11}, []int{20, 21}},
		"a[a[0] - 4] -= x;": {[][]int{{3}, {0}, {5, 3}, {}, {7, 8}}, []int{10, 11}, []int{20, 21}},
		"x <=> a[0];":       {[][]int{{5}, {0}, {3, 6}, {}, {7, 8}}, []int{10, 11}, []int{20, 21}},
		"a[0] <=> a[1];":    {[][]int{{3}, {0}, {6, 5}, {}, {7, 8}}, []int{10, 11}, []int{20, 21}},
		"a[1] <=> a[1];":    {[][]int{{3}, {0}, {5, 6}, {}, {7, 8}}, []int{10, 11}, []int{20, 21}},
		"push x, t;":        {[][]int{{0}, {0}, {5, 6}, {}, {7, 8, 3}}, []int{10, 11}, []int{20, 21}},
		"push a[y], s;":     {[][]int{{3}, {0}, {0, 6}, {5}, {7, 8}}, []int{10, 11}, []int{20, 21}},
		"pop y, t;":         {[][]int{{3}, {8}, {5, 6}, {}, {7}}, []int{10, 11}, []int{20, 21}},
		"read y;":           {[][]int{{3}, {10}, {5, 6}, {}, {7, 8}}, []int{11}, []int{20, 21}},
		"unread a[1];":      {[][]int{{3}, {0}, {5, 0}, {}, {7, 8}}, []int{6, 10, 11}, []int{20, 21}},
		"write x;":          {[][]int{{0}, {0}, {5, 6}, {}, {7, 8}}, []int{10, 11}, []int{20, 21, 3}},
		"unwrite y;":        {[][]int{{3}, {21}, {5, 6}, {}, {7, 8}}, []int{10, 11}, []int{20}},
		"x += size(t) + y;": {[][]int{{5}, {0}, {5, 6}, {}, {7, 8}}, []int{10, 11}, []int{20, 21}},
	} {
		st := open(t)
		n := stmt(t, s)
		if e := st.Do(n); e != api.OK || !state.Equal(st.State(), api.State{Cells: want.cells, In: want.in, Out: want.out}) {
			t.Errorf("%q: %v, %d", s, st.State(), e)
		}
		if s == "x += x;" || s == "a[a[0] - 4] -= x;" {
			continue
		}
		after := st.State()
		if e := st.Undo(n); e != api.OK || !state.Equal(st.State(), initial()) {
			t.Errorf("undo %q: %v, %d", s, st.State(), e)
		}
		if e := st.Do(n); e != api.OK || !state.Equal(st.State(), after) {
			t.Errorf("redo %q: %v, %d", s, st.State(), e)
		}
	}
}

func TestUndoFirst(t *testing.T) {
	for _, s := range []string{"x += 1;", "x -= y;", "a[0] ^= 9;", "push y, t;", "pop x, s;", "read x;", "unread y;", "write y;", "unwrite x;", "x <=> y;"} {
		st := open(t)
		n := stmt(t, s)
		if e := st.Undo(n); e != api.OK {
			t.Errorf("%q: %d", s, e)
		}
		if e := st.Do(n); e != api.OK || !state.Equal(st.State(), initial()) {
			t.Errorf("%q: %v, %d", s, st.State(), e)
		}
	}
}

func TestDoErrors(t *testing.T) {
	for s, want := range map[string]api.Errno{
		"x := 1;": api.ErrLossy, "z := 1;": api.ErrLossy, "call f();": api.ErrType, "if z { } else { } fi 1;": api.ErrType, "local x = 1 { } delocal 1;": api.ErrType,
		"z += a;": api.ErrName, "a += z;": api.ErrType, "x += z;": api.ErrName, "x += a;": api.ErrType, "x[0] += 1;": api.ErrType, "s += 1;": api.ErrType,
		"x += top(x);": api.ErrType, "x += size(z);": api.ErrName, "push z, x;": api.ErrType, "push z, w;": api.ErrName, "pop y, a;": api.ErrType, "pop y, z;": api.ErrName, "pop z, s;": api.ErrName, "x <=> z;": api.ErrName, "x <=> s;": api.ErrType,
		"a[1 / 0] += 1 % 0;": api.ErrDivide, "a[9] += 1 / 0;": api.ErrDivide, "a[9] <=> a[1 / 0];": api.ErrDivide, "a[9] <=> a[top(s)];": api.ErrEmpty, "a[2] += 1;": api.ErrIndex, "a[-1] <=> x;": api.ErrIndex,
		"x <=> a[2];": api.ErrIndex, "push a[2], s;": api.ErrIndex, "pop a[2], s;": api.ErrIndex, "read a[5];": api.ErrIndex,
		"pop x, s;": api.ErrEmpty, "pop y, s;": api.ErrEmpty, "pop x, t;": api.ErrClear, "pop a[0], t;": api.ErrClear, "read x;": api.ErrClear, "unwrite x;": api.ErrClear,
	} {
		st := open(t)
		if e := st.Do(stmt(t, s)); e != want || !state.Equal(st.State(), initial()) {
			t.Errorf("%q: %d", s, e)
		}
	}
	st := open(t)
	for _, n := range []api.Node{{}, {Kind: api.Plus}, {Kind: api.Block}, {Kind: api.Num}, {Kind: api.Set}} {
		if e := st.Do(n); e != api.ErrForm {
			t.Errorf("%v: %d", n, e)
		}
		if e := st.Undo(n); e != api.ErrForm {
			t.Errorf("%v: %d", n, e)
		}
	}
	for s, want := range map[string]api.Errno{"x := 1;": api.ErrLossy, "call f();": api.ErrType, "push x, t;": api.ErrClear, "push x, s;": api.ErrEmpty, "write x;": api.ErrClear, "unread x;": api.ErrClear, "x += z;": api.ErrName} {
		if e := st.Undo(stmt(t, s)); e != want || !state.Equal(st.State(), initial()) {
			t.Errorf("undo %q: %d", s, e)
		}
	}
}

func TestEmptyTapesAndFullComponents(t *testing.T) {
	empty := initial()
	empty.In, empty.Out = nil, nil
	full := initial()
	full.In, full.Out, full.Cells[4] = make([]int, api.MaxTape), make([]int, api.MaxTape), make([]int, api.MaxStack)
	for _, c := range []struct {
		s    api.State
		stmt string
		want api.Errno
	}{
		{empty, "read x;", api.ErrTape}, {empty, "read y;", api.ErrTape}, {empty, "unwrite x;", api.ErrTape},
		{full, "unread x;", api.ErrFull}, {full, "write x;", api.ErrFull}, {full, "push x, t;", api.ErrFull}, {full, "pop x, t;", api.ErrClear},
	} {
		st, _ := store.New(vars, c.s)
		if e := st.Do(stmt(t, c.stmt)); e != c.want || !state.Equal(st.State(), c.s) {
			t.Errorf("%q: %d", c.stmt, e)
		}
	}
}

func TestExample(t *testing.T) {
	st := open(t)
	st.Do(stmt(t, "a[1] -= x;"))
	st.Do(stmt(t, "push x, s;"))
	if e := st.Do(stmt(t, "pop a[0], s;")); e != api.ErrClear {
		t.Error(e)
	}
	if got := st.State(); !slices.Equal(got.Cells[2], []int{5, 3}) || !slices.Equal(got.Cells[3], []int{3}) || got.Cells[0][0] != 0 {
		t.Error(got)
	}
}

func TestLocals(t *testing.T) {
	st := open(t)
	local := func(name string, kind byte, n int) api.VarDecl { return api.VarDecl{Name: name, Kind: kind, Len: n} }
	for _, c := range []struct {
		v    api.VarDecl
		want api.Errno
	}{
		{local("k", api.Array, 2), api.ErrType}, {local("k", 0, 0), api.ErrType}, {local("x", api.Int, 1), api.ErrType}, {local("x", api.Int, 0), api.ErrTwice},
		{local("k", api.Int, 0), api.OK}, {local("k", api.Stack, 0), api.ErrTwice}, {local("Any Name", api.Stack, 0), api.OK},
	} {
		if e := st.Open(c.v, 4); e != c.want {
			t.Errorf("%v: %d", c.v, e)
		}
	}
	if !state.Equal(st.State(), initial()) {
		t.Error("locals are no part of the state")
	}
	if l, _ := st.Cell("k"); !slices.Equal(l, []int{4}) {
		t.Error(l)
	}
	if e := st.Do(stmt(t, "k += x;")); e != api.OK {
		t.Error(e)
	}
	for _, c := range []struct {
		name  string
		value int
		want  api.Errno
	}{{"k", 7, api.ErrName}, {"x", 3, api.ErrName}, {"Any Name", 5, api.OK}, {"k", 4, api.ErrLocal}, {"k", 7, api.OK}, {"k", 7, api.ErrName}, {"t", 0, api.ErrName}} {
		if e := st.Close(c.name, c.value); e != c.want {
			t.Errorf("%v: %d", c, e)
		}
	}
	st.Open(local("u", api.Stack, 0), 0)
	st.Do(stmt(t, "push x, u;"))
	if e := st.Close("u", 0); e != api.ErrLocal {
		t.Error("a stack that is not empty", e)
	}
	st.Do(stmt(t, "pop x, u;"))
	if e := st.Close("u", 0); e != api.OK || !state.Equal(st.State(), initial()) {
		t.Error(e)
	}
}

func TestFrames(t *testing.T) {
	st := open(t)
	params := []api.VarDecl{{Name: "p", Kind: api.Int}, {Name: "q", Kind: api.Array, Len: 2}, {Name: "r", Kind: api.Stack}}
	for _, c := range []struct {
		params []api.VarDecl
		args   []string
		want   api.Errno
	}{
		{params, nil, api.ErrType}, {params, []string{"z", "x", "s"}, api.ErrName}, {params, []string{"a", "z", "s"}, api.ErrType},
		{params, []string{"x", "s", "z"}, api.ErrType}, {params, []string{"x", "a", "z"}, api.ErrName},
		{[]api.VarDecl{{Name: "q", Kind: api.Array, Len: 3}}, []string{"a"}, api.ErrType},
	} {
		if e := st.Enter(c.params, c.args); e != c.want || st.Depth() != 0 {
			t.Errorf("%v: %d", c.args, e)
		}
	}
	if e := st.Leave(); e != api.ErrState {
		t.Error("no frame was entered", e)
	}
	if e := st.Enter(params, []string{"x", "a", "t"}); e != api.OK || st.Depth() != 1 {
		t.Fatal(e)
	}
	if _, ok := st.Cell("x"); ok {
		t.Error("only names of the current frame are visible")
	}
	st.Do(stmt(t, "p += q[0];"))
	st.Do(stmt(t, "push p, r;"))
	st.Open(api.VarDecl{Name: "x", Kind: api.Int}, 1)
	if e := st.Leave(); e != api.ErrState {
		t.Error("the frame has locals", e)
	}
	if e := st.Close("x", 1); e != api.OK {
		t.Error(e)
	}
	if got := st.State(); got.Cells[0][0] != 0 || !slices.Equal(got.Cells[4], []int{7, 8, 8}) {
		t.Error("cells that are changed through parameters", got)
	}
	if e := st.Close("x", 1); e != api.ErrName {
		t.Error(e)
	}
	if e := st.Leave(); e != api.OK || st.Depth() != 0 {
		t.Error(e)
	}
	if e := st.Enter([]api.VarDecl{{Name: "p", Kind: api.Int}, {Name: "p", Kind: api.Int}}, []string{"x", "y"}); e != api.OK {
		t.Error(e)
	}
	st.Do(stmt(t, "p += 4;"))
	if got := st.State(); got.Cells[1][0] != 4 {
		t.Error("the last parameter counts", got)
	}
}

func TestDepth(t *testing.T) {
	st := open(t)
	p := []api.VarDecl{{Name: "x", Kind: api.Int}}
	for range api.MaxCalls {
		if e := st.Enter(p, []string{"x"}); e != api.OK {
			t.Fatal(e)
		}
	}
	if e := st.Enter(p, []string{"x"}); e != api.ErrDepth || st.Depth() != api.MaxCalls {
		t.Error(e)
	}
	if e := st.Enter(p, []string{"z"}); e != api.ErrName {
		t.Error("the arguments are examined first", e)
	}
	st.Do(stmt(t, "x += 1;"))
	if st.State().Cells[0][0] != 4 {
		t.Error("nested parameters")
	}
}

func TestNilStore(t *testing.T) {
	var st *store.Store
	n := stmt(t, "x := 1;")
	if st.Do(n) != api.ErrArg || st.Undo(api.Node{}) != api.ErrArg || st.Open(api.VarDecl{}, 0) != api.ErrArg || st.Close("", 0) != api.ErrArg || st.Enter(nil, []string{""}) != api.ErrArg || st.Leave() != api.ErrArg {
		t.Error("errors of a nil store")
	}
	if _, ok := st.Cell("x"); ok || st.Depth() != 0 || !state.Equal(st.State(), api.State{}) {
		t.Error("contents of a nil store")
	}
}
