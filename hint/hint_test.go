package hint_test

import (
	"testing"

	"backstep/api"
	"backstep/enumerate"
	"backstep/exercise"
	"backstep/grader"
	"backstep/hint"
	"backstep/interp"
	"backstep/parser"
	"backstep/state"
)

func parse(t *testing.T, s string) api.Program {
	t.Helper()
	p, pos, e := parser.Program(s)
	if e != api.OK {
		t.Fatalf("%q: %d, %d", s, pos, e)
	}
	return p
}

func sample(t *testing.T, given string) exercise.Exercise {
	return exercise.Exercise{Name: "task", Points: 5, Fuel: 30, Box: enumerate.Box{Value: 1, Length: 1, Input: 1}, Given: parse(t, given)}
}

func TestOfAndFormat(t *testing.T) {
	for given, answers := range map[string]map[string]string{
		"int x main { x += 2; }": {
			"int x main { x -= 1; }":          "start: x=2 in=[] out=[]\nresult: x\nexpected: 0, got: 1\n",
			"int x main { x -= 2; write x; }": "start: x=2 in=[] out=[]\nresult: out.length\nexpected: 0, got: 1\n",
			"int x main { x -= 2; read x; }":  "start: x=2 in=[] out=[]\nerror: 17\nexpected: none\n",
			"int x main { x -= 2; }":          "",
		},
		"int x array a[2] stack s main { a[0] += x; push x, s; x += 1; }": {
			"int x array a[2] stack s main { x -= 1; pop x, s; a[1] -= x; }":          "start: x=1 a=[1 0] s=[1] in=[] out=[]\nresult: a[0]\nexpected: 0, got: 1\n",
			"int x array a[2] stack s main { x -= 1; a[1] <=> a[0]; a[1] <=> a[0]; }": "start: x=1 a=[0 0] s=[0] in=[] out=[]\nresult: s.length\nexpected: 0, got: 1\n",
		},
		"int x main { read x; write x; }": {
			"int x main { unwrite x; write x; }": "start: x=0 in=[] out=[0]\nresult: in.length\nexpected: 1, got: 0\n",
		},
	} {
		e := sample(t, given)
		for text, want := range answers {
			answer := parse(t, text)
			h, wrong, err := hint.Of(e, answer)
			if err != api.OK || wrong != (want != "") {
				t.Errorf("%q: %v, %v, %d", text, h, wrong, err)
				continue
			}
			if got := hint.Format(h, e.Given.Vars); wrong && got != want {
				t.Errorf("%q: %q", text, got)
			}
			verify(t, e, answer, h, wrong)
		}
	}
}

// verify compares a hint with the verdict and the runs that it describes.
func verify(t *testing.T, e exercise.Exercise, answer api.Program, h hint.Hint, wrong bool) {
	t.Helper()
	v, _ := grader.Grade(e, answer)
	if v.OK == wrong {
		t.Error(v)
	}
	if !wrong {
		if h.Err != api.OK || h.Change != (state.Change{}) || !state.Equal(h.Input, api.State{}) {
			t.Error(h)
		}
		return
	}
	if given := interp.Forward(e.Given, v.State, e.Fuel); !state.Equal(given.State, h.Input) || h.Err != v.Err {
		t.Error(h, given)
	}
	r := interp.Forward(answer, h.Input, e.Fuel)
	if r.Err != h.Err || h.Err == api.OK && state.Diff(r.State, v.State)[0] != h.Change || h.Err != api.OK && h.Change != (state.Change{}) {
		t.Error(h, r)
	}
}

func TestOfErrors(t *testing.T) {
	e := sample(t, "int x main { x += 2; }")
	for text, want := range map[string]api.Errno{"int x main { y += 1; }": api.ErrForm, "int x main { x := 1; }": api.ErrLossy, "int y main { }": api.ErrType} {
		if h, wrong, err := hint.Of(e, parse(t, text)); err != want || wrong || !state.Equal(h.Input, api.State{}) {
			t.Error(text, h, err)
		}
	}
	e.Points = 0
	if _, wrong, err := hint.Of(e, parse(t, "int x main { x -= 1; }")); err != api.ErrArg || wrong {
		t.Error(err)
	}
}

func TestFormat(t *testing.T) {
	vars := []api.VarDecl{{Name: "x", Kind: api.Int}, {Name: "a", Kind: api.Array, Len: 2}, {Name: "s", Kind: api.Stack}}
	input := api.State{Cells: [][]int{{-5}, {1, 2}, {3, 4, 5}}, In: []int{6, -7}, Out: []int{8}}
	const start = "start: x=-5 a=[1 2] s=[3 4 5] in=[6 -7] out=[8]\n"
	for where, c := range map[string]state.Change{
		"x": {Cell: 0}, "a[0]": {Cell: 1}, "a[1]": {Cell: 1, At: 1}, "a[99]": {Cell: 1, At: 99}, "a.length": {Cell: 1, At: -1}, "s[2]": {Cell: 2, At: 2}, "s.length": {Cell: 2, At: -1}, "in[0]": {Cell: -1}, "in.length": {Cell: -1, At: -1}, "out[3]": {Cell: -2, At: 3}, "out.length": {Cell: -2, At: -1},
	} {
		c.Old, c.New = -3, 12
		if got := hint.Format(hint.Hint{Input: input, Change: c}, vars); got != start+"result: "+where+"\nexpected: 12, got: -3\n" {
			t.Errorf("%q", got)
		}
		if got := hint.Format(hint.Hint{Input: input, Change: c, Err: api.ErrAssert}, vars); got != start+"error: 15\nexpected: none\n" {
			t.Errorf("%q", got)
		}
	}
	for _, c := range []state.Change{{Cell: -3}, {Cell: 3}, {Cell: 0, At: 1}, {Cell: 0, At: -1}, {Cell: 1, At: -2}, {Cell: -1, At: -2}} {
		if got := hint.Format(hint.Hint{Input: input, Change: c}, vars); got != "" {
			t.Errorf("%v: %q", c, got)
		}
		if got := hint.Format(hint.Hint{Input: input, Change: c, Err: api.ErrAssert}, vars); got == "" {
			t.Errorf("%v: the change does not matter", c)
		}
	}
	if hint.Format(hint.Hint{}, vars) != "" || hint.Format(hint.Hint{Input: api.State{Cells: [][]int{{1}}}, Err: api.ErrAssert}, vars) != "" {
		t.Error("an input that does not fit")
	}
	if got := hint.Format(hint.Hint{Change: state.Change{Cell: -1, At: 0, New: 1}}, nil); got != "start: in=[] out=[]\nresult: in[0]\nexpected: 1, got: 0\n" {
		t.Errorf("%q", got)
	}
}
