package grader_test

import (
	"testing"

	"backstep/api"
	"backstep/enumerate"
	"backstep/exercise"
	"backstep/grader"
	"backstep/parser"
	"backstep/state"
)

func parse(t *testing.T, s string) api.Program {
	t.Helper()
	p, pos, e := parser.Program(s)
	if e != api.OK {
		t.Fatalf("%q: %d, %d", s, pos, e)
	}
	return p
}

func sample(t *testing.T, given string) exercise.Exercise {
	return exercise.Exercise{Name: "inc", Points: 5, Fuel: 20, Box: enumerate.Box{Value: 2}, Given: parse(t, given)}
}

func one(x int) api.State { return api.State{Cells: [][]int{{x}}} }

func TestGrade(t *testing.T) {
	for i, c := range []struct {
		given, answer string
		want          grader.Verdict
	}{
		{"int x main { x += 1; }", "int x main { x -= 1; }", grader.Verdict{OK: true, Tried: 5}},
		{"int x main { x += 1; }", "int x main { if x == 1 { x -= 1; } else { } fi x == 0; }", grader.Verdict{Tried: 2, State: one(1)}},
		{"int x main { x += 1; }", "int x main { x -= 2; }", grader.Verdict{Tried: 1, State: one(0)}},
		{"int x main { x += 1; }", "int x main { x -= 1; local k = 5 / x { } delocal 5 / x; }", grader.Verdict{Tried: 1, State: one(0), Err: api.ErrDivide}},
		{"int x main { x += 1; }", "int x main { x -= 1; local k = 1 / (x + 2) { } delocal 1 / (x + 2); }", grader.Verdict{Tried: 5, State: one(-2), Err: api.ErrDivide}},
		{"int x main { local k = 1 / x { x += 1; } delocal 1 / (x - 1); }", "int x main { x -= 1; }", grader.Verdict{OK: true, Tried: 4}},
		{"int x main { local k = 1 / x { x += 1; } delocal 1 / (x - 1); }", "int x main { x -= 2; }", grader.Verdict{Tried: 1, State: one(1)}},
		{"int x main { local k = 1 / 0 { } delocal 1; }", "int x main { x -= 2; }", grader.Verdict{OK: true}},
		{"int x main { x += 1; }", "int x main { from x == x { x -= 1; } loop { } until 1 - x * 0; x += 30; from x != 0 { } loop { } until x == 1 - 1; }", grader.Verdict{Tried: 1, State: one(0), Err: api.ErrAssert}},
		{"int x main { x += 1; }", "int x main { x -= 1; local k = 0 { from k == 0 { } loop { k += 1; } until k == x + x + x; } delocal x + x + x; }", grader.Verdict{Tried: 3, State: one(-1), Err: api.ErrFuel}},
	} {
		got, e := grader.Grade(sample(t, c.given), parse(t, c.answer))
		if e != api.OK || got.OK != c.want.OK || got.Tried != c.want.Tried || got.Err != c.want.Err || !state.Equal(got.State, c.want.State) {
			t.Errorf("case %d: %v, %d", i, got, e)
		}
	}
}

func TestErrors(t *testing.T) {
	good, bad := sample(t, "int x main { x += 1; }"), sample(t, "int x main { x += 1; }")
	bad.Points = 0
	invalid := parse(t, "int x main { x -= 1; }")
	invalid.Vars[0].Len = 1
	for i, c := range []struct {
		e      exercise.Exercise
		answer api.Program
		want   api.Errno
	}{
		{bad, invalid, api.ErrArg}, {good, invalid, api.ErrForm}, {good, parse(t, "int x main { y -= 1; x := 1; }"), api.ErrForm}, {good, parse(t, "int z main { z := 1; z += z; }"), api.ErrLossy}, {good, parse(t, "int x main { if x { } else { } fi 1; x := 1; }"), api.ErrConst},
		{good, parse(t, "int y main { y -= 1; }"), api.ErrType}, {good, parse(t, "int x int y main { x -= 1; }"), api.ErrType}, {good, parse(t, "array x[1] main { x[0] -= 1; }"), api.ErrType}, {good, parse(t, "main { }"), api.ErrType},
	} {
		if v, e := grader.Grade(c.e, c.answer); e != c.want || v.OK || v.Tried != 0 || !state.Equal(v.State, api.State{}) || v.Err != api.OK {
			t.Errorf("case %d: %v, %d", i, v, e)
		}
		if ok, e := grader.Inverts(c.e, c.answer, api.State{}); e != c.want || ok {
			t.Errorf("case %d: Inverts %v, %d", i, ok, e)
		}
	}
}

func TestInverts(t *testing.T) {
	e := sample(t, "int x main { local k = 1 / x { x += 1; } delocal 1 / (x - 1); }")
	answer := parse(t, "int x main { if x > 0 { x -= 1; } else { } fi x >= 0; }")
	for _, c := range []struct {
		s    api.State
		want bool
		e    api.Errno
	}{
		{one(1), true, api.OK}, {one(2000), true, api.OK}, {one(-5), false, api.OK}, {one(0), false, api.ErrDivide}, {api.State{}, false, api.ErrState}, {api.State{Cells: [][]int{{1}}, In: make([]int, 5000)}, false, api.ErrState},
		{api.State{Cells: [][]int{{1}}, In: []int{5}, Out: []int{6}}, true, api.OK},
	} {
		if ok, err := grader.Inverts(e, answer, c.s); ok != c.want || err != c.e {
			t.Error(c, ok, err)
		}
	}
	e.Fuel = 2
	if ok, err := grader.Inverts(e, answer, one(1)); ok || err != api.ErrFuel {
		t.Error(ok, err)
	}
}

func TestSolutionsAreRight(t *testing.T) {
	for _, text := range []string{
		"int x int y main { x += y; if y > 0 { y += 1; } else { y -= 1; } fi y > 0; }",
		"int x stack s main { push x, s; pop x, s; push x, s; }",
		"int x main { read x; write x; read x; }",
		"int x main { from x == 0 { x += 1; } loop { } until x == 2; }",
	} {
		e := sample(t, text)
		e.Box = enumerate.Box{Value: 2, Length: 2, Input: 2}
		solution, _ := exercise.Solution(e)
		v, err := grader.Grade(e, solution)
		if err != api.OK || !v.OK || v.Tried == 0 {
			t.Error(text, v, err)
		}
		for s := range enumerate.All(e.Given.Vars, e.Box) {
			if ok, err := grader.Inverts(e, solution, s); ok != (err == api.OK) {
				t.Error(text, s, err)
			}
		}
	}
}
