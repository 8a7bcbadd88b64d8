package state_test

import (
	"bytes"
	"math"
	"slices"
	"testing"

	"backstep/api"
	"backstep/state"
)

var (
	integer = api.VarDecl{Name: "x", Kind: api.Int}
	array   = api.VarDecl{Name: "a", Kind: api.Array, Len: 2}
	stack   = api.VarDecl{Name: "s", Kind: api.Stack}
	vars    = []api.VarDecl{integer, array, stack}
)

func sample() api.State {
	return api.State{Cells: [][]int{{1}, {5, 6}, {7, 8, 9}}, In: []int{1, 2}, Out: []int{3}}
}

func TestNew(t *testing.T) {
	in := []int{4, 5}
	s, e := state.New(vars, in)
	in[0] = 9
	want := api.State{Cells: [][]int{{0}, {0, 0}, {}}, In: []int{4, 5}}
	if !state.Equal(s, want) || e != api.OK {
		t.Error(s, e)
	}
	for _, bad := range [][]api.VarDecl{{{Kind: 0}}, {{Kind: 4}}, {{Kind: api.Int, Len: 1}}, {{Kind: api.Stack, Len: 1}}, {{Kind: api.Array}}, {{Kind: api.Array, Len: 17}}, {{Kind: api.Array, Len: -1}}, slices.Repeat(vars, 11)} {
		if s, e := state.New(bad, make([]int, api.MaxTape+1)); e != api.ErrForm || len(s.Cells) != 0 || state.Fits(bad, s) {
			t.Error(bad, e)
		}
	}
	if _, e := state.New(slices.Repeat(vars[:1], 32), make([]int, api.MaxTape)); e != api.OK {
		t.Error("the greatest numbers", e)
	}
	if s, e := state.New(vars, make([]int, api.MaxTape+1)); e != api.ErrFull || len(s.Cells) != 0 {
		t.Error(e)
	}
	if _, e := state.New([]api.VarDecl{{Name: "Any Name", Kind: api.Array, Len: 16}, {Kind: api.Array, Len: 1}}, nil); e != api.OK {
		t.Error("names are not examined")
	}
}

func TestFits(t *testing.T) {
	for title, c := range map[string]struct {
		change func(s *api.State)
		want   bool
	}{
		"unchanged":    {func(s *api.State) {}, true},
		"nil stack":    {func(s *api.State) { s.Cells[2] = nil }, true},
		"nil array":    {func(s *api.State) { s.Cells[1] = nil }, false},
		"no integer":   {func(s *api.State) { s.Cells[0] = []int{} }, false},
		"two integers": {func(s *api.State) { s.Cells[0] = []int{1, 2} }, false},
		"missing cell": {func(s *api.State) { s.Cells = s.Cells[:2] }, false},
		"further cell": {func(s *api.State) { s.Cells = append(s.Cells, nil) }, false},
		"full stack":   {func(s *api.State) { s.Cells[2] = make([]int, 1000) }, true},
		"too full":     {func(s *api.State) { s.Cells[2] = make([]int, 1001) }, false},
		"full input":   {func(s *api.State) { s.In = make([]int, 4096) }, true},
		"long input":   {func(s *api.State) { s.In = make([]int, 4097) }, false},
		"full output":  {func(s *api.State) { s.Out = make([]int, 4096) }, true},
		"long output":  {func(s *api.State) { s.Out = make([]int, 4097) }, false},
	} {
		s := sample()
		c.change(&s)
		if state.Fits(vars, s) != c.want {
			t.Error(title)
		}
		if b, e := state.Encode(vars, s); (e == api.OK) != c.want || !c.want && (len(b) != 0 || e != api.ErrForm) {
			t.Error(title, e)
		}
	}
}

func TestEqualAndClone(t *testing.T) {
	a := sample()
	b := state.Clone(a)
	if !state.Equal(a, b) || !state.Equal(api.State{}, api.State{Cells: [][]int{}, In: []int{}}) {
		t.Error("equal states")
	}
	b.Cells[1][0], b.In[0], b.Out[0] = 0, 0, 0
	b.Cells[0] = nil
	if !state.Equal(a, sample()) {
		t.Error("Clone shares memory")
	}
	for _, change := range []func(s *api.State){
		func(s *api.State) { s.Cells[1][1]++ }, func(s *api.State) { s.In[0]++ }, func(s *api.State) { s.Out = nil },
		func(s *api.State) { s.Cells = s.Cells[:2] }, func(s *api.State) { s.Cells[2] = s.Cells[2][:2] },
	} {
		c := sample()
		change(&c)
		if state.Equal(a, c) || state.Equal(c, a) {
			t.Error("different states", c)
		}
	}
}

func TestDiff(t *testing.T) {
	a := api.State{Cells: [][]int{{1}, {5, 6}}, In: []int{7, 8}}
	b := api.State{Cells: [][]int{{1}, {5}}, In: []int{8}}
	want := []state.Change{{1, -1, 2, 1}, {1, 1, 6, 0}, {-1, -1, 2, 1}, {-1, 1, 7, 0}}
	if got := state.Diff(a, b); !slices.Equal(got, want) {
		t.Error(got)
	}
	c := sample()
	d := api.State{Cells: [][]int{{2}, {6, 6}, {7, 8, 9, 0, 4}}, In: []int{9, 1, 2}, Out: []int{3, 0}}
	want = []state.Change{{0, 0, 1, 2}, {1, 0, 5, 6}, {2, -1, 3, 5}, {2, 4, 0, 4}, {-1, -1, 2, 3}, {-1, 2, 0, 9}, {-2, -1, 1, 2}}
	if got := state.Diff(c, d); !slices.Equal(got, want) {
		t.Error(got)
	}
	if l := state.Diff(c, api.State{}); len(l) != 0 {
		t.Error("different numbers of cells", l)
	}
	if l := state.Diff(c, c); len(l) != 0 {
		t.Error("equal states", l)
	}
	for _, pair := range [][2]api.State{{a, b}, {b, a}, {c, d}, {d, c}, {c, c}} {
		l := state.Diff(pair[0], pair[1])
		s, e := state.Apply(pair[0], l)
		if e != api.OK || !state.Equal(s, pair[1]) {
			t.Error("Apply", s, e)
		}
		s, e = state.Apply(s, state.Reverse(l))
		if e != api.OK || !state.Equal(s, pair[0]) {
			t.Error("Apply of the reverse", s, e)
		}
	}
}

func TestApplyErrors(t *testing.T) {
	for i, c := range []struct {
		l    []state.Change
		want api.Errno
	}{
		{nil, api.OK},
		{[]state.Change{{3, 0, 0, 0}}, api.ErrRange},
		{[]state.Change{{-3, 0, 0, 0}}, api.ErrRange},
		{[]state.Change{{0, -2, 0, 0}}, api.ErrRange},
		{[]state.Change{{0, 4096, 0, 0}}, api.ErrRange},
		{[]state.Change{{0, 4095, 0, 0}}, api.OK},
		{[]state.Change{{0, 4095, 0, 1}}, api.ErrState},
		{[]state.Change{{0, -1, 1, -1}}, api.ErrRange},
		{[]state.Change{{0, -1, 1, 4097}}, api.ErrRange},
		{[]state.Change{{0, -1, 5, 4097}}, api.ErrRange},
		{[]state.Change{{0, -1, 1, 4096}}, api.OK},
		{[]state.Change{{0, 0, 1, 0}, {0, -1, 1, 0}}, api.OK},
		{[]state.Change{{0, -1, 1, 0}}, api.ErrState},
		{[]state.Change{{0, -1, 2, 3}}, api.ErrState},
		{[]state.Change{{0, 0, 2, 3}}, api.ErrState},
		{[]state.Change{{0, 1, 1, 3}}, api.ErrState},
		{[]state.Change{{2, -1, 3, 2}}, api.ErrState},
		{[]state.Change{{2, -1, 3, 2}, {2, 2, 9, 0}}, api.OK},
		{[]state.Change{{2, 2, 9, 0}, {2, -1, 3, 2}}, api.OK},
		{[]state.Change{{-1, 0, 2, 5}, {-1, 1, 1, 6}}, api.OK},
		{[]state.Change{{-1, 0, 1, 5}}, api.ErrState},
		{[]state.Change{{0, 0, 1, 2}, {0, 0, 1, 3}}, api.ErrState},
		{[]state.Change{{0, 0, 7, 2}, {9, 0, 1, 3}}, api.ErrState},
	} {
		s := sample()
		got, e := state.Apply(s, c.l)
		if e != c.want || !state.Equal(s, sample()) || e != api.OK && !state.Equal(got, api.State{}) {
			t.Errorf("case %d: %v, %d", i, got, e)
		}
	}
	got, _ := state.Apply(sample(), []state.Change{{-1, -1, 2, 4}, {-1, 3, 0, 8}, {0, -1, 1, 2}})
	if !slices.Equal(got.In, []int{8, 0, 1, 2}) || !slices.Equal(got.Cells[0], []int{1, 0}) {
		t.Error(got)
	}
	s := sample()
	got, _ = state.Apply(s, nil)
	got.Cells[0][0], got.In[0], got.Out[0] = 9, 9, 9
	if !state.Equal(s, sample()) {
		t.Error("Apply shares memory")
	}
}

func TestReverse(t *testing.T) {
	l := []state.Change{{0, 1, 2, 3}, {-1, -1, 4, 5}}
	if got := state.Reverse(l); !slices.Equal(got, []state.Change{{-1, -1, 5, 4}, {0, 1, 3, 2}}) || l[0].New != 3 {
		t.Error(got)
	}
}

func TestEncode(t *testing.T) {
	s, _ := state.New(vars[:1], nil)
	s.Cells[0][0] = 258
	b, e := state.Encode(vars[:1], s)
	if !bytes.Equal(b, []byte{0, 0, 0, 0, 0, 0, 1, 2, 0, 0, 0, 0}) || e != api.OK {
		t.Error(b, e)
	}
	small := api.State{Cells: [][]int{{-2}, {0, 1}, {3}}, In: []int{4, 5}, Out: []int{6}}
	eight := func(x byte) []byte { return []byte{0, 0, 0, 0, 0, 0, 0, x} }
	want := bytes.Join([][]byte{{255, 255, 255, 255, 255, 255, 255, 254}, eight(0), eight(1), {0, 1}, eight(3), {0, 2}, eight(4), eight(5), {0, 1}, eight(6)}, nil)
	if b, _ := state.Encode(vars, small); !bytes.Equal(b, want) {
		t.Error(b)
	}
	big := sample()
	big.Cells[0][0], big.Cells[1][0], big.Cells[1][1] = math.MinInt, math.MaxInt, -1
	big.Cells[2] = make([]int, 1000)
	big.In, big.Out = make([]int, 4096), make([]int, 300)
	for _, s := range []api.State{small, sample(), big} {
		b, _ := state.Encode(vars, s)
		got, e := state.Decode(vars, b)
		if e != api.OK || !state.Equal(got, s) {
			t.Error("decoded", got, e)
		}
		for n := 0; n < len(b); n += 1 + len(b)/50 {
			if got, e := state.Decode(vars, b[:n]); e != api.ErrEnd || !state.Equal(got, api.State{}) {
				t.Error("beginning", n, e)
			}
		}
		if _, e := state.Decode(vars, append(b, 0)); e != api.ErrForm {
			t.Error("bytes at the end", e)
		}
	}
}

func TestDecodeErrors(t *testing.T) {
	if _, e := state.Decode([]api.VarDecl{{Kind: 9}}, nil); e != api.ErrForm {
		t.Error(e)
	}
	s := []api.VarDecl{stack}
	for i, c := range []struct {
		b    []byte
		want api.Errno
	}{
		{nil, api.ErrEnd}, {[]byte{3}, api.ErrEnd}, {[]byte{3, 0xe9}, api.ErrFull}, {[]byte{3, 0xe8}, api.ErrEnd},
		{[]byte{0, 0, 0x10, 0x01}, api.ErrFull}, {[]byte{0, 0, 0x10, 0}, api.ErrEnd}, {[]byte{0, 0, 0, 0, 0xff, 0xff}, api.ErrFull},
		{[]byte{0, 0, 0, 0, 0}, api.ErrEnd}, {[]byte{0, 0, 0, 0, 0, 0}, api.OK}, {[]byte{0, 0, 0, 0, 0, 0, 0}, api.ErrForm},
	} {
		if _, e := state.Decode(s, c.b); e != c.want {
			t.Errorf("case %d: %d", i, e)
		}
	}
}
