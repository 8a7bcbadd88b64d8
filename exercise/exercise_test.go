package exercise_test

import (
	"slices"
	"strings"
	"testing"

	"backstep/api"
	"backstep/ast"
	"backstep/enumerate"
	"backstep/exercise"
	"backstep/interp"
	"backstep/inverter"
	"backstep/parser"
	"backstep/state"
)

func parse(t *testing.T, s string) api.Program {
	t.Helper()
	p, pos, e := parser.Program(s)
	if e != api.OK {
		t.Fatalf("%q: %d, %d", s, pos, e)
	}
	return p
}

func sample(t *testing.T) exercise.Exercise {
	return exercise.Exercise{Name: "inc", Points: 5, Fuel: 100, Box: enumerate.Box{Value: 2}, Given: parse(t, "int x main { x += 1; }")}
}

const text = "exercise inc points 5 fuel 100 value 2 length 0 input 0 lines 4\nint x\nmain {\n\tx += 1;\n}\n"

func TestValid(t *testing.T) {
	for title, c := range map[string]struct {
		change func(e *exercise.Exercise)
		want   bool
	}{
		"unchanged": {func(e *exercise.Exercise) {}, true},
		"no name":   {func(e *exercise.Exercise) { e.Name = "" }, false},
		"keyword":   {func(e *exercise.Exercise) { e.Name = "main" }, false},
		"no points": {func(e *exercise.Exercise) { e.Points = 0 }, false},
		"one point": {func(e *exercise.Exercise) { e.Points = 1 }, true},
		"65536 states": {func(e *exercise.Exercise) {
			e.Given = parse(t, "stack s stack t main {}")
			e.Box = enumerate.Box{Length: 255}
		}, true},
		"1000 points":     {func(e *exercise.Exercise) { e.Points = 1000 }, true},
		"1001 points":     {func(e *exercise.Exercise) { e.Points = 1001 }, false},
		"no fuel":         {func(e *exercise.Exercise) { e.Fuel = 0 }, true},
		"negative fuel":   {func(e *exercise.Exercise) { e.Fuel = -1 }, false},
		"much fuel":       {func(e *exercise.Exercise) { e.Fuel = 1000000 }, true},
		"too much fuel":   {func(e *exercise.Exercise) { e.Fuel = 1000001 }, false},
		"invalid box":     {func(e *exercise.Exercise) { e.Box.Value = -1 }, false},
		"large bound":     {func(e *exercise.Exercise) { e.Box.Input, e.Box.Value = 1001, 0 }, false},
		"all states":      {func(e *exercise.Exercise) { e.Given.Vars = parse(t, "int x int y main {}").Vars; e.Box.Value = 127 }, true},
		"too many states": {func(e *exercise.Exercise) { e.Given.Vars = parse(t, "int x int y main {}").Vars; e.Box.Value = 128 }, false},
		"no program":      {func(e *exercise.Exercise) { e.Given = api.Program{} }, false},
		"rejected":        {func(e *exercise.Exercise) { e.Given = parse(t, "int x main { x += x; }") }, false},
		"inverse":         {func(e *exercise.Exercise) { e.Given = parse(t, "int x main { if 1 { } else { } fi x; }") }, false},
		"inverse loop":    {func(e *exercise.Exercise) { e.Given = parse(t, "int x main { from x { } loop { } until 1; }") }, false},
		"scope fault":     {func(e *exercise.Exercise) { e.Given = parse(t, "int x main { y += 1; }") }, false},
	} {
		e := sample(t)
		c.change(&e)
		if exercise.Valid(e) != c.want {
			t.Error(title)
		}
		if p, err := exercise.Solution(e); (err == api.OK) != c.want || !c.want && (err != api.ErrForm || !ast.Same(p, api.Program{})) {
			t.Error(title, err)
		}
		if s, err := exercise.Print([]exercise.Exercise{e}); (err == api.OK) != c.want || !c.want && (err != api.ErrForm || s != "") {
			t.Error(title, err)
		}
	}
}

func same(a, b exercise.Exercise) bool {
	return a.Name == b.Name && a.Points == b.Points && a.Fuel == b.Fuel && a.Box == b.Box && ast.Same(a.Given, b.Given)
}

func TestPrintAndParse(t *testing.T) {
	e := sample(t)
	if s, err := exercise.Print([]exercise.Exercise{e}); s != text || err != api.OK {
		t.Error(s, err)
	}
	second := exercise.Exercise{Name: "second", Points: 1000, Fuel: 0, Box: enumerate.Box{Value: 1, Length: 2, Input: 3}, Given: parse(t, "int x stack s proc f(int y) { y -= 1; } main { call f(x); push x, s; }")}
	l := []exercise.Exercise{e, second}
	s, err := exercise.Print(l)
	if err != api.OK || !strings.Contains(s, "}\nexercise second points 1000 fuel 0 value 1 length 2 input 3 lines 9\nint x\n") {
		t.Error(s, err)
	}
	back, at, err := exercise.Parse(s)
	if err != api.OK || at != 0 || !slices.EqualFunc(back, l, same) {
		t.Error(back, at, err)
	}
	if s, err := exercise.Print(nil); s != "" || err != api.OK {
		t.Error(s, err)
	}
	if l, at, err := exercise.Parse(""); len(l) != 0 || at != 0 || err != api.OK {
		t.Error(l, at, err)
	}
}

func TestPrintErrors(t *testing.T) {
	e, bad := sample(t), sample(t)
	bad.Points = 0
	var many []exercise.Exercise
	for i := range 101 {
		x := e
		x.Name = "e" + strings.Repeat("x", i%10) + string(rune('a'+i/10))
		many = append(many, x)
	}
	long := e
	long.Given = parse(t, "int abcdefghijklmnop main { "+strings.Repeat("abcdefghijklmnop += 1;", 600)+" }")
	longs := make([]exercise.Exercise, 5)
	for i := range longs {
		longs[i] = long
		longs[i].Name = "l" + string(rune('a'+i))
	}
	for i, c := range []struct {
		l    []exercise.Exercise
		want api.Errno
	}{
		{many[:100], api.OK}, {many, api.ErrFull}, {append(slices.Clone(many), bad), api.ErrFull}, {[]exercise.Exercise{e, e, bad}, api.ErrForm}, {[]exercise.Exercise{e, many[0], e}, api.ErrTwice}, {longs[:4], api.OK}, {longs, api.ErrFull}, {append(slices.Clone(longs), long, long), api.ErrTwice},
	} {
		s, err := exercise.Print(c.l)
		if err != c.want || err != api.OK && s != "" {
			t.Errorf("case %d: %d", i, err)
		}
		if err == api.OK {
			if l, _, err := exercise.Parse(s); err != api.OK || len(l) != len(c.l) {
				t.Errorf("case %d: %d", i, err)
			}
		}
	}
}

func TestParseErrors(t *testing.T) {
	header := "exercise two points 5 fuel 100 value 2 length 0 input 0 lines 4\n"
	body := "int x\nmain {\n\tx += 1;\n}\n"
	for s, want := range map[string]api.Errno{
		strings.TrimSuffix(header, "\n"): api.ErrEnd, "garbage": api.ErrEnd, "garbage\n": api.ErrForm, "\n": api.ErrForm, header: api.ErrEnd, header + "int x\nmain {\n\tx += 1;\n}": api.ErrEnd,
		header + body[:6] + "main {\n\n}\n": api.ErrForm, header + "int x\nmain {\n x += 1;\n}\n": api.ErrForm, header + "int x\nmain {\n\tx += 1\n}\n": api.ErrForm, header + "int x\nmain {\n\tx := 1;\n}\n": api.ErrForm,
		strings.Replace(header, "two", "main", 1) + body: api.ErrForm, strings.Replace(header, "two", "Two", 1) + body: api.ErrForm, strings.Replace(header, "exercise", "task", 1) + body: api.ErrForm, strings.Replace(header, " fuel", "  fuel", 1) + body: api.ErrForm,
		strings.Replace(header, "points 5", "points 05", 1) + body: api.ErrForm, strings.Replace(header, "points 5", "points +5", 1) + body: api.ErrForm, strings.Replace(header, "points 5", "points 0", 1) + body: api.ErrForm, strings.Replace(header, "points 5", "points 1001", 1) + body: api.ErrForm,
		strings.Replace(header, "value 2", "value -0", 1) + body: api.ErrForm, strings.Replace(header, "value 2", "value 1001", 1) + body: api.ErrForm, strings.Replace(header, "length 0", "input 0", 1) + body: api.ErrForm, strings.Replace(header, "lines 4", "lines", 1) + body: api.ErrForm, strings.Replace(header, "lines 4", "lines 4 ", 1) + body: api.ErrForm,
		strings.Replace(header, "lines 4", "lines 1000000000", 1) + body: api.ErrEnd, strings.Replace(header, "lines 4", "lines 1000000001", 1) + body: api.ErrForm, strings.Replace(header, "lines 4", "lines 0", 1) + body: api.ErrForm, strings.Replace(header, "lines 4", "lines 3", 1) + body: api.ErrForm, strings.Replace(header, "lines 4", "lines 5", 1) + body + "\n": api.ErrForm,
		strings.Replace(header, "two", "inc", 1) + body: api.ErrTwice, header + body: api.OK,
	} {
		l, at, err := exercise.Parse(text + s)
		if err != want || want != api.OK && (at != 6 || len(l) != 0) {
			t.Errorf("%q: %d, %d", s, at, err)
		}
	}
	if l, at, err := exercise.Parse(strings.Repeat("\n", api.MaxText+1)); len(l) != 0 || at != 0 || err != api.ErrFull {
		t.Error(at, err)
	}
	if l, at, err := exercise.Parse(strings.Repeat("\n", api.MaxText)); len(l) != 0 || at != 1 || err != api.ErrForm {
		t.Error(at, err)
	}
	var b strings.Builder
	for i := range 101 {
		b.WriteString(strings.Replace(text, "inc", "e"+strings.Repeat("x", i%10)+string(rune('a'+i/10)), 1))
		if i == 99 {
			if l, _, err := exercise.Parse(b.String()); len(l) != 100 || err != api.OK {
				t.Error(err)
			}
		}
	}
	if l, at, err := exercise.Parse(b.String()); len(l) != 0 || at != 501 || err != api.ErrFull {
		t.Error(at, err)
	}
}

func TestSolution(t *testing.T) {
	e := sample(t)
	e.Given = parse(t, "int x int y main { x += y; if y > 0 { y += 1; } else { y -= 1; } fi y > 0; }")
	p, err := exercise.Solution(e)
	want, _ := inverter.Program(e.Given)
	if err != api.OK || !ast.Same(p, want) {
		t.Error(p, err)
	}
	for s := range enumerate.All(e.Given.Vars, e.Box) {
		there := interp.Forward(e.Given, s, e.Fuel)
		back := interp.Forward(p, there.State, e.Fuel)
		if there.Err == api.OK && (back.Err != api.OK || back.Steps != there.Steps || !state.Equal(back.State, s)) {
			t.Error(s, there, back)
		}
	}
}
