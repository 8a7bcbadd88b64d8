package interp_test

import (
	"slices"
	"testing"

	"backstep/api"
	"backstep/internal/sample"
	"backstep/interp"
	"backstep/parser"
	"backstep/state"
)

const much = 1 << 20

func parse(t *testing.T, s string) api.Program {
	t.Helper()
	p, pos, e := parser.Program(s)
	if e != api.OK {
		t.Fatalf("%q: %d, %d", s, pos, e)
	}
	return p
}

func ints(l ...int) api.State {
	var s api.State
	for _, x := range l {
		s.Cells = append(s.Cells, []int{x})
	}
	return s
}

func failed(t *testing.T, r interp.Result, s api.State, want api.Errno) {
	t.Helper()
	if r.Err != want || r.Steps != 0 || !state.Equal(r.State, s) {
		t.Errorf("%v, not error %d", r, want)
	}
}

func TestStepsForwardAndBackward(t *testing.T) {
	for _, c := range []struct {
		text          string
		before, after []int
		steps         int
	}{
		{"int x main { }", []int{5}, []int{5}, 0},
		{"int x main { x += 3; }", []int{4}, []int{7}, 1},
		{"int x main { from x == 0 { x += 1; } loop { } until x == 3; }", []int{0}, []int{3}, 9},
		{"int x main { from x == 0 { } loop { x += 1; } until x == 3; }", []int{0}, []int{3}, 11},
		{"int x int y main { if x > 0 { y += 1; } else { } fi y > 0; }", []int{1, 0}, []int{1, 1}, 3},
		{"int x int y main { if x > 0 { y += 1; } else { } fi y > 0; }", []int{0, 0}, []int{0, 0}, 2},
		{"int x int y main { if x { } else { y -= 5; x += 1; } fi !x; }", []int{0, 0}, []int{1, -5}, 4},
		{"int x int y main { local k = x { y += k; k += 1; } delocal x + 1; }", []int{3, 0}, []int{3, 3}, 4},
		{"int x int y main { local stack s { push x, s; push y, s; pop x, s; pop y, s; }; }", []int{1, 2}, []int{2, 1}, 6},
		{"int x int y proc f(int a, int b) { a += b; } main { call f(x, y); call f(y, x); }", []int{1, 2}, []int{3, 5}, 6},
		{"int x int y proc f(int a, int b) { a += b; a ^= 1; } main { uncall f(x, y); }", []int{1, 2}, []int{-2, 2}, 4},
		{"int x int y proc f(int a, int b) { uncall g(a, b); } proc g(int a, int b) { a += b; b += 1; } main { uncall f(x, y); }", []int{1, 2}, []int{3, 3}, 6},
	} {
		p := parse(t, c.text)
		s := ints(c.before...)
		r := interp.Forward(p, s, much)
		end := ints(c.after...)
		if r.Err != api.OK || r.Steps != c.steps || !state.Equal(r.State, end) || !state.Equal(s, ints(c.before...)) {
			t.Errorf("%q: %v", c.text, r)
		}
		b := interp.Backward(p, end, much)
		if b.Err != api.OK || b.Steps != c.steps || !state.Equal(b.State, s) {
			t.Errorf("%q backward: %v", c.text, b)
		}
		for fuel := -1; fuel < c.steps; fuel++ {
			if c.steps > 0 {
				failed(t, interp.Forward(p, s, fuel), s, api.ErrFuel)
				failed(t, interp.Backward(p, end, fuel), end, api.ErrFuel)
			}
		}
		if r := interp.Forward(p, s, c.steps); r.Err != api.OK {
			t.Errorf("%q needs more fuel than steps", c.text)
		}
	}
}

func TestForwardErrors(t *testing.T) {
	for text, want := range map[string]api.Errno{
		"int x main { x += 1; x := 2; }":                                                                api.ErrLossy,
		"int x main { x += 1; x += 1 / 0; }":                                                            api.ErrDivide,
		"int x array a[2] main { x += 1; a[x + 1] += 1; }":                                              api.ErrIndex,
		"int x stack s main { x += 1; x += top(s); }":                                                   api.ErrEmpty,
		"int x main { x += 1; read x; }":                                                                api.ErrTape,
		"int x main { unwrite x; }":                                                                     api.ErrTape,
		"int x stack s main { push x, s; x += 1; pop x, s; }":                                           api.ErrClear,
		"int x main { if x == 0 { x += 1; } else { } fi x == 0; }":                                      api.ErrAssert,
		"int x main { if x != 0 { } else { x += 1; } fi x != 0; }":                                      api.ErrAssert,
		"int x main { if 1 / x { } else { } fi x; }":                                                    api.ErrDivide,
		"int x main { if x { } else { } fi 1 / x; }":                                                    api.ErrDivide,
		"int x main { from x != 0 { } loop { } until 1; }":                                              api.ErrAssert,
		"int x main { from x == 0 { } loop { } until x == 1; }":                                         api.ErrAssert,
		"int x main { from 1 / x { } loop { } until 1; }":                                               api.ErrDivide,
		"int x main { from x == 0 { x += 1; } loop { } until 1 / (x - 1); }":                            api.ErrDivide,
		"int x main { local k = 1 { k += 1; } delocal 1; }":                                             api.ErrLocal,
		"int x main { local k = 1 / 0 { } delocal 1; }":                                                 api.ErrDivide,
		"int x main { local k = 1 { } delocal 1 / 0; }":                                                 api.ErrDivide,
		"int x main { local stack s { push x, s; }; }":                                                  api.ErrLocal,
		"int x proc f(int a) { call f(a); } main { call f(x); }":                                        api.ErrDepth,
		"int x proc f(int a) { uncall g(a); } proc g(int b) { b += 1; call f(b); } main { call f(x); }": api.ErrDepth,
	} {
		p := parse(t, text)
		s, _ := state.New(p.Vars, nil)
		failed(t, interp.Forward(p, s, much), s, want)
	}
}

func TestBackwardErrors(t *testing.T) {
	for text, want := range map[string]api.Errno{
		"int x main { x := 2; x += 1; }":                           api.ErrLossy,
		"int x stack s main { push x, s; }":                        api.ErrEmpty,
		"int x main { unread x; }":                                 api.ErrTape,
		"int x main { write x; }":                                  api.ErrTape,
		"int x main { read x; x += 1; }":                           api.OK,
		"int x main { if x { } else { x += 1; } fi x - 1; }":       api.ErrAssert,
		"int x main { from x == 1 { } loop { } until x == 1; }":    api.ErrAssert,
		"int x main { local k = 1 { k += 1; } delocal 1; }":        api.ErrLocal,
		"int x main { local stack s { pop x, s; }; }":              api.ErrLocal,
		"int x main { if 1 / 0 { } else { } fi x; }":               api.ErrDivide,
		"int x proc f(int a) { uncall f(a); } main { call f(x); }": api.ErrDepth,
	} {
		p := parse(t, text)
		s, _ := state.New(p.Vars, nil)
		r := interp.Backward(p, s, much)
		if want == api.OK {
			if r.Err != api.OK || !slices.Equal(r.State.In, []int{-1}) {
				t.Errorf("%q: %v", text, r)
			}
			continue
		}
		failed(t, r, s, want)
	}
}

func TestInvalidArguments(t *testing.T) {
	s := ints(1)
	for _, p := range []api.Program{{}, parse(t, "int x int x main { }"), parse(t, "int x main { y += 1; }"), {Vars: []api.VarDecl{{Name: "x", Kind: api.Int, Len: 1}}}} {
		failed(t, interp.Forward(p, s, much), s, api.ErrForm)
		failed(t, interp.Backward(p, s, much), s, api.ErrForm)
		if l, r := interp.Profile(p, s, much); len(l) != 0 || r.Err != api.ErrForm {
			t.Error(l, r)
		}
	}
	p := parse(t, "int x main { x += 1; }")
	for _, bad := range []api.State{{}, ints(1, 2), {Cells: [][]int{{1}}, In: make([]int, api.MaxTape+1)}} {
		failed(t, interp.Forward(p, bad, much), bad, api.ErrState)
		failed(t, interp.Backward(p, bad, much), bad, api.ErrState)
	}
	r := interp.Forward(p, s, 0)
	r.State.Cells[0][0] = 99
	if s.Cells[0][0] != 1 {
		t.Error("the result shares memory with the argument")
	}
}

func TestTapesAndStacks(t *testing.T) {
	p := parse(t, "int x stack s main { read x; push x, s; read x; write x; read x; }")
	before := api.State{Cells: [][]int{{0}, {}}, In: []int{1, 2, 3, 4}, Out: []int{9}}
	after := api.State{Cells: [][]int{{3}, {1}}, In: []int{4}, Out: []int{9, 2}}
	if r := interp.Forward(p, before, much); r.Err != api.OK || !state.Equal(r.State, after) || r.Steps != 5 {
		t.Error(r)
	}
	if r := interp.Backward(p, after, much); r.Err != api.OK || !state.Equal(r.State, before) {
		t.Error(r)
	}
}

func TestProfile(t *testing.T) {
	p := parse(t, "int x proc f(int a) { call g(a); uncall g(a); } proc g(int a) { a += 1; } proc h() { } main { call f(x); uncall f(x); uncall g(x); }")
	l, r := interp.Profile(p, ints(5), much)
	if !slices.Equal(l, []int{2, 5, 0}) || r.Err != api.OK || !state.Equal(r.State, ints(4)) || r.Steps != interp.Forward(p, ints(5), much).Steps {
		t.Error(l, r)
	}
	if l, r := interp.Profile(p, ints(5), 3); len(l) != 0 || r.Err != api.ErrFuel {
		t.Error(l, r)
	}
}

func TestCallDepth(t *testing.T) {
	p := parse(t, "int x proc f(int a) { if a > 0 { a -= 1; call f(a); a += 1; } else { } fi a > 0; } main { call f(x); }")
	if r := interp.Forward(p, ints(99), much); r.Err != api.OK {
		t.Error("100 active procedures", r.Err)
	}
	failed(t, interp.Forward(p, ints(100), much), ints(100), api.ErrDepth)
	failed(t, interp.Forward(p, ints(100), 50), ints(100), api.ErrFuel)
}

func TestRandomProgramsAreReversible(t *testing.T) {
	ends := 0
	for seed := range 4000 {
		p, s := sample.Program(seed), sample.State(seed)
		for _, run := range []struct {
			there, back func(api.Program, api.State, int) interp.Result
		}{{interp.Forward, interp.Backward}, {interp.Backward, interp.Forward}} {
			r := run.there(p, s, 5000)
			if r.Err != api.OK {
				if r.Steps != 0 || !state.Equal(r.State, s) {
					t.Fatalf("program %d: %v", seed, r)
				}
				continue
			}
			ends++
			b := run.back(p, r.State, r.Steps)
			if b.Err != api.OK || b.Steps != r.Steps || !state.Equal(b.State, s) {
				t.Fatalf("program %d: %v, and back %v", seed, r, b)
			}
			if r.Steps > 0 && run.there(p, s, r.Steps-1).Err != api.ErrFuel {
				t.Fatalf("program %d ends with less fuel", seed)
			}
			split(t, p, s, r)
		}
	}
	if ends < 500 {
		t.Error("too few runs end with OK:", ends)
	}
}

// split runs the statements of the main block in two parts.
func split(t *testing.T, p api.Program, s api.State, whole interp.Result) {
	t.Helper()
	r := interp.Forward(p, s, 5000)
	if r.Err != api.OK {
		return
	}
	k := len(p.Main.Kids) / 2
	first, second := p, p
	first.Main.Kids, second.Main.Kids = p.Main.Kids[:k], p.Main.Kids[k:]
	a := interp.Forward(first, s, 5000)
	b := interp.Forward(second, a.State, 5000)
	if b.Err != api.OK || a.Steps+b.Steps != r.Steps || !state.Equal(b.State, r.State) {
		t.Fatal("parts", a, b, whole)
	}
}
