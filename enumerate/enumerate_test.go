package enumerate_test

import (
	"slices"
	"testing"

	"backstep/api"
	"backstep/enumerate"
	"backstep/state"
)

var (
	integer = api.VarDecl{Name: "x", Kind: api.Int}
	pair    = api.VarDecl{Name: "a", Kind: api.Array, Len: 2}
	stack   = api.VarDecl{Name: "s", Kind: api.Stack}
)

func TestRanks(t *testing.T) {
	for r, x := range []int{0, 1, -1, 2, -2, 3, -3} {
		if enumerate.Rank(x) != r || enumerate.Unrank(r) != x {
			t.Errorf("rank of %d: %d, number with the rank %d: %d", x, enumerate.Rank(x), r, enumerate.Unrank(r))
		}
	}
	for _, x := range []int{1 << 40, -1 << 40} {
		if enumerate.Unrank(enumerate.Rank(x)) != x {
			t.Error(x)
		}
	}
	if enumerate.Rank(1<<40) != 1<<41-1 || enumerate.Unrank(-1) != 0 || enumerate.Unrank(-1<<63) != 0 {
		t.Error("bounds")
	}
}

func TestWeightAndLess(t *testing.T) {
	s := func(in, out []int, cells ...[]int) api.State { return api.State{Cells: cells, In: in, Out: out} }
	if w := enumerate.Weight(s([]int{1}, []int{-2}, []int{0, 3}, nil)); w != 1+4+0+5+4 {
		t.Error(w)
	}
	ascending := []api.State{
		s(nil, nil), s(nil, nil, nil), s(nil, nil, nil, nil),
		s(nil, []int{0}), s([]int{0}, nil), s(nil, []int{0}, nil), s(nil, nil, []int{0}),
		s(nil, []int{1}, nil), s(nil, []int{0, 0}, nil), s([]int{0}, []int{0}, nil), s([]int{1}, nil, nil), s([]int{0, 0}, nil, nil),
		s([]int{0}, nil, []int{0}), s(nil, nil, []int{1}), s(nil, nil, []int{0, 0}),
		s(nil, nil, []int{1}, []int{1}), s(nil, nil, []int{1}, []int{0, 0}), s(nil, nil, []int{0, 1}, []int{0}), s(nil, nil, []int{1, 0}, []int{0}),
	}
	for i := range ascending {
		for j := range ascending {
			a, b := ascending[i], ascending[j]
			before := i < j && enumerate.Weight(a) == enumerate.Weight(b) || enumerate.Weight(a) < enumerate.Weight(b)
			if enumerate.Less(a, b) != before {
				t.Errorf("%v before %v: %v", a, b, !before)
			}
		}
	}
}

func cells(vars []api.VarDecl, b enumerate.Box) []api.State {
	return slices.Collect(enumerate.All(vars, b))
}

func TestAllExamples(t *testing.T) {
	var got []int
	for s := range enumerate.All([]api.VarDecl{integer}, enumerate.Box{Value: 1}) {
		got = append(got, s.Cells[0]...)
	}
	if !slices.Equal(got, []int{0, 1, -1}) {
		t.Error(got)
	}
	want := []api.State{{Cells: [][]int{{}}}, {Cells: [][]int{{0}}}, {Cells: [][]int{{1}}}, {Cells: [][]int{{-1}}}}
	if l := cells([]api.VarDecl{stack}, enumerate.Box{Value: 1, Length: 1}); !slices.EqualFunc(l, want, state.Equal) {
		t.Error(l)
	}
	if l := cells(nil, enumerate.Box{}); len(l) != 1 {
		t.Error("no variables", l)
	}
}

// brute lists the states of a box without any order.
func brute(vars []api.VarDecl, b enumerate.Box) []api.State {
	lists := func(least, most int) [][]int {
		l, all := [][]int{{}}, [][]int{}
		for n := 0; n <= most; n++ {
			if n >= least {
				all = append(all, l...)
			}
			var longer [][]int
			for _, x := range l {
				for v := -b.Value; v <= b.Value; v++ {
					longer = append(longer, append(slices.Clone(x), v))
				}
			}
			l = longer
		}
		return all
	}
	states := []api.State{{}}
	for _, v := range vars {
		least, most := v.Len, v.Len
		if v.Kind == api.Int {
			least, most = 1, 1
		} else if v.Kind == api.Stack {
			most = b.Length
		}
		var next []api.State
		for _, s := range states {
			for _, l := range lists(least, most) {
				c := state.Clone(s)
				c.Cells = append(c.Cells, l)
				next = append(next, c)
			}
		}
		states = next
	}
	var all []api.State
	for _, s := range states {
		for _, in := range lists(0, b.Input) {
			c := state.Clone(s)
			c.In = in
			all = append(all, c)
		}
	}
	return all
}

func TestAllAgainstBruteForce(t *testing.T) {
	for _, vars := range [][]api.VarDecl{nil, {integer}, {stack}, {pair}, {integer, stack}, {stack, pair}, {stack, stack, integer}} {
		for _, b := range []enumerate.Box{{}, {Value: 1}, {Value: 0, Length: 2, Input: 1}, {Value: 1, Length: 1, Input: 1}, {Value: 2, Length: 2}, {Value: 2, Input: 2}} {
			want := brute(vars, b)
			slices.SortFunc(want, func(a, b api.State) int {
				if enumerate.Less(a, b) {
					return -1
				}
				return 1
			})
			got := cells(vars, b)
			if !slices.EqualFunc(got, want, state.Equal) {
				t.Errorf("%v %v: %d states, not %d", vars, b, len(got), len(want))
			}
			if n, e := enumerate.Count(vars, b); n != len(want) || e != api.OK {
				t.Errorf("%v %v: Count %d, %d", vars, b, n, e)
			}
		}
	}
}

func TestAllLargeBox(t *testing.T) {
	vars := slices.Repeat([]api.VarDecl{stack}, 32)
	var last api.State
	n := 0
	for s := range enumerate.All(vars, enumerate.Box{Value: 1000, Length: 1000, Input: 1000}) {
		if n > 0 && !enumerate.Less(last, s) {
			t.Fatal("order", last, s)
		}
		last = s
		if n++; n == 2000 {
			break
		}
	}
	if n != 2000 || enumerate.Weight(last) > 4 {
		t.Error(n, enumerate.Weight(last))
	}
}

func TestStatesShareNoMemory(t *testing.T) {
	var l []api.State
	for s := range enumerate.All([]api.VarDecl{pair}, enumerate.Box{Value: 1, Input: 1}) {
		l = append(l, state.Clone(s))
		s.Cells[0][0], s.Cells[0][1] = 77, 77
		for i := range s.In {
			s.In[i] = 77
		}
		s.Cells[0] = nil
	}
	if len(l) != 36 || !slices.EqualFunc(l, cells([]api.VarDecl{pair}, enumerate.Box{Value: 1, Input: 1}), state.Equal) {
		t.Error("changes of a state influence the next ones")
	}
}

func TestCount(t *testing.T) {
	if n, e := enumerate.Count([]api.VarDecl{pair}, enumerate.Box{Value: 2, Input: 1}); n != 150 || e != api.OK {
		t.Error(n, e)
	}
	wide := api.VarDecl{Name: "a", Kind: api.Array, Len: 16}
	for _, c := range []struct {
		vars []api.VarDecl
		b    enumerate.Box
		n    int
		e    api.Errno
	}{
		{slices.Repeat([]api.VarDecl{integer}, 32), enumerate.Box{}, 1, api.OK},
		{[]api.VarDecl{stack}, enumerate.Box{Length: 1000}, 1001, api.OK},
		{[]api.VarDecl{stack, stack}, enumerate.Box{Length: 1000, Input: 1000}, 1001 * 1001 * 1001, api.OK},
		{slices.Repeat([]api.VarDecl{stack}, 4), enumerate.Box{Length: 1000}, 1001 * 1001 * 1001 * 1001, api.OK},
		{slices.Repeat([]api.VarDecl{stack}, 5), enumerate.Box{Length: 1000}, 0, api.ErrFull},
		{slices.Repeat([]api.VarDecl{stack}, 4), enumerate.Box{Length: 1023}, 0, api.ErrArg},
		{slices.Repeat([]api.VarDecl{stack}, 4), enumerate.Box{Length: 511, Input: 15}, 1 << 40, api.OK},
		{slices.Repeat([]api.VarDecl{stack}, 4), enumerate.Box{Length: 511, Input: 16}, 0, api.ErrFull},
		{[]api.VarDecl{integer}, enumerate.Box{Value: 1000, Length: 1000, Input: 1}, 2001 * 2002, api.OK},
		{[]api.VarDecl{wide}, enumerate.Box{Value: 2}, 152587890625, api.OK},
		{[]api.VarDecl{wide, integer, integer}, enumerate.Box{Value: 2}, 0, api.ErrFull},
		{[]api.VarDecl{wide, integer}, enumerate.Box{Value: 2}, 762939453125, api.OK},
		{[]api.VarDecl{wide}, enumerate.Box{Value: 1000}, 0, api.ErrFull},
		{nil, enumerate.Box{Value: 1000, Input: 1000}, 0, api.ErrFull},
	} {
		if n, e := enumerate.Count(c.vars, c.b); n != c.n || e != c.e {
			t.Errorf("%v: %d, %d", c.b, n, e)
		}
	}
}

func TestInvalidBoxes(t *testing.T) {
	ok := []api.VarDecl{integer}
	for i, c := range []struct {
		vars []api.VarDecl
		b    enumerate.Box
	}{
		{ok, enumerate.Box{Value: -1}}, {ok, enumerate.Box{Length: -1}}, {ok, enumerate.Box{Input: -1}},
		{ok, enumerate.Box{Value: 1001}}, {ok, enumerate.Box{Length: 1001}}, {ok, enumerate.Box{Input: 1001}},
		{[]api.VarDecl{{Kind: 0}}, enumerate.Box{}}, {[]api.VarDecl{{Kind: api.Array}}, enumerate.Box{}}, {[]api.VarDecl{{Kind: api.Array, Len: 17}}, enumerate.Box{}},
		{[]api.VarDecl{{Kind: api.Int, Len: 1}}, enumerate.Box{}}, {slices.Repeat(ok, 33), enumerate.Box{}},
	} {
		if n, e := enumerate.Count(c.vars, c.b); n != 0 || e != api.ErrArg {
			t.Errorf("case %d: %d, %d", i, n, e)
		}
		if l := cells(c.vars, c.b); len(l) != 0 {
			t.Errorf("case %d: %v", i, l)
		}
	}
}
