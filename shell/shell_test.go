package shell_test

import (
	"slices"
	"strconv"
	"strings"
	"testing"

	"backstep/api"
	"backstep/internal/sample"
	"backstep/printer"
	"backstep/script"
	"backstep/shell"
)

// parse reads commands whose texts follow them.
func parse(t *testing.T, s string) []script.Command {
	t.Helper()
	l, at, e := script.Parse(s)
	if e != api.OK {
		t.Fatal(s, at, e)
	}
	return l
}

const double = "load 4\nint x\nmain {\nx += 2;\n}\n"

func TestExample(t *testing.T) {
	s := shell.New()
	got, e := s.Play(parse(t, double+"run 5\nshow\nundo\nshow\n"))
	want := []string{"variables 1 procedures 0\n", "steps 1\n", "x 2\nin\nout\n", "", "x 0\nin\nout\n"}
	if e != api.OK || !slices.Equal(got, want) {
		t.Errorf("%q, %d", got, e)
	}
	transcript := "> load 4\nvariables 1 procedures 0\n> run 5\nsteps 1\n> show\nx 2\nin\nout\n> undo\n> show\nx 0\nin\nout\n"
	if s.Transcript() != transcript {
		t.Errorf("%q", s.Transcript())
	}
}

// play returns the results of commands after others.
func play(t *testing.T, before, commands string) []string {
	t.Helper()
	s := shell.New()
	if _, e := s.Play(parse(t, before)); e != api.OK {
		t.Fatal(e)
	}
	l, e := s.Play(parse(t, commands))
	if e != api.OK {
		t.Fatal(e)
	}
	return l
}

func TestCommands(t *testing.T) {
	stacks := "load 7\nint x array a[2]\nstack s\nproc f(int y) { y += 1; }\nmain {\nread x; push x, s; a[1] += 3; write a[1];\ncall f(x);\n}\n"
	for i, c := range []struct {
		before, commands string
		want             []string
	}{
		{"", stacks + "show\ninput 7 8\nshow\nrun 100\nshow\nback 100\nshow\n", []string{"variables 3 procedures 1\n", "x 0\na 0 0\ns\nin\nout\n", "input 2\n", "x 0\na 0 0\ns\nin 7 8\nout\n", "steps 7\n", "x 1\na 0 0\ns 7\nin 8\nout 3\n", "steps 7\n", "x 0\na 0 0\ns\nin 7 8\nout\n"}},
		{double, "input\nrun 0\nrun -1\nrun 1\nback 1\nback 0\nshow\n", []string{"input 0\n", "error 18\n", "error 18\n", "steps 1\n", "steps 1\n", "error 18\n", "x 0\nin\nout\n"}},
		{double, "check\ninvert\nrun 1\nshow\n", []string{"accepted\n", "int x\nmain {\n\tx -= 2;\n}\n", "steps 1\n", "x -2\nin\nout\n"}},
		{"", "load 1\nint x int x proc f() { z += 1; } main { y += 1; call h(); x := 1; }\ncheck\n", []string{"variables 2 procedures 1\n", "fault -1 1 22 x\nfault 0 0.0 6 z\nfault 1 0.0 6 y\nfault 1 1 6 h\n"}},
		{"", "load 1\nint x proc f(int y) { y += y; } proc f() { } main { }\ncheck\nrun 5\nload 1\nint x proc f(int y) { y += y; } main { if x { x := 1; } else { } fi 1; }\ncheck\n", []string{"variables 1 procedures 2\n", "fault 1 - 22 f\n", "error 3\n", "variables 1 procedures 1\n", "reject 0 0 8 y\nreject -1 0 10 -\nreject -1 0.1.0 9 x\n"}},
		{double, "load 1\nmain {\nshow\nload 0\n", []string{"error 4\n", "x 0\nin\nout\n", "error 4\n"}},
		{"", "functions 2\nproc inc(int x) int { x + 1 }\nproc two(stack l, int x) stack { push(x, push(1, l)) }\nevaluate inc 0 41\nevaluate two 1 2 8 9 0 7\nevaluate two 1 0 0 7\n", []string{"functions 2\n", "value 42 steps 11\n", "", ""}},
		{"", "functions 0\nfunctions 1\nproc f\nfunctions 1\nproc f(int x) int { y }\nevaluate f\n", []string{"functions 0\n", "error 4\n", "error 6\n", "error 21\n"}},
		{"", "points ann\nundo\n", []string{"points 0\n", "error 20\n"}},
	} {
		got := play(t, c.before, c.commands)
		for j := range got {
			if c.want[j] == "" && strings.HasPrefix(got[j], "value [") {
				continue
			}
			if got[j] != c.want[j] {
				t.Errorf("case %d, command %d: %q, not %q", i, j, got[j], c.want[j])
			}
		}
	}
}

func TestEvaluate(t *testing.T) {
	lib := "functions 4\nproc id(stack l) stack { l }\nproc add(int a, stack l, int b) int { a + top(l) * b }\nproc spin(int x) int { spin(x) }\nproc inc(int x) int { x + 1 }\n"
	got := play(t, lib, "evaluate id 1 3 -7 8 9\nevaluate id 1 0\nevaluate add 0 5 1 2 3 4 0 2\nevaluate add 0 5 1 0 0 2\nevaluate spin 0 1\nevaluate none\nevaluate id\nevaluate id 0 1\nevaluate id 1\nevaluate id 1 2 3\nevaluate id 1 -1\nevaluate id 2 5\nevaluate inc 0\nevaluate none 0\nevaluate inc 0 1 1\n")
	for i, want := range []string{"value [-7 8 9] steps ", "value [] steps ", "value 11 steps ", "error 13\n", "error 19\n", "error 21\n", "error 7\n", "error 7\n", "error 3\n", "error 3\n", "error 3\n", "error 3\n", "error 3\n", "error 3\n", "error 3\n"} {
		if !strings.HasPrefix(got[i], want) {
			t.Errorf("%d: %q", i, got[i])
		}
	}
	got = play(t, lib, "undo\nevaluate inc 0 1\n")
	if got[1] != "error 21\n" {
		t.Error("the library is empty at first", got)
	}
}

func TestErrorsWithoutProgram(t *testing.T) {
	for _, c := range []string{"input 1\n", "run 5\n", "back 5\n", "check\n", "invert\n", "compile\n", "step 0\n", "step -1\n", "show\n", "submit ann 1 1 1 1 1\n)\n", "undo\n"} {
		if got := play(t, "", c); got[0] != "error 20\n" {
			t.Errorf("%q: %q", c, got)
		}
	}
}

func TestDebugger(t *testing.T) {
	got := play(t, double, "step 1\ncompile\nstep 3\nstep -2\nstep -2\nstep 1000000\nstep 1000001\nstep 999999\nstep 0\nundo\nundo\nstep 1\nundo\nundo\nundo\nstep 0\n")
	if !strings.HasPrefix(got[1], "code ") || !strings.Contains(got[1], " cells 81 stacks 1\n") {
		t.Error(got[1])
	}
	want := []string{"error 20\n", "", "time 3 position 3\n", "time 1 position 1\n", "error 2\n", "error 2\n", "error 2\n", "error 4\n", "time 1 position 1\n", "", "", "time 4 position 4\n", "", "", "", "error 20\n"}
	for i := range want {
		if i != 1 && got[i] != want[i] {
			t.Errorf("%d: %q", i, got[i])
		}
	}
	got = play(t, "", "load 1\nint x int y main { x <=> y; x <=> y; }\ncompile\nstep 2\nstep -2\nstep -1\n")
	if got[1] != "code 7 optimized 1 cells 82 stacks 1\n" || got[3] != "time 0 position 0\n" || got[4] != "error 2\n" {
		t.Error(got)
	}
	for _, c := range []string{double, "input 1\n", "run 5\n", "back 5\n", "invert\n"} {
		got := play(t, double+"compile\nstep 2\n", c+"step 1\nundo\nstep 1\n")
		if got[1] != "error 20\n" || got[3] != "time 3 position 3\n" {
			t.Errorf("%q removes the debugger, and undo restores it: %q", c, got)
		}
	}
	for _, c := range []string{"check\n", "show\n", "functions 0\n", "points ann\n", "run 0\n", "load 1\nx\n", "undo\nstep 2\n"} {
		got := play(t, double+"compile\nstep 2\n", c+"step 1\n")
		if got[len(got)-1] != "time 3 position 3\n" {
			t.Errorf("%q keeps the debugger: %q", c, got)
		}
	}
	got = play(t, "", "load 1\nint x main { x += x; }\ncompile\nload 1\nint x main { y += 1; }\ncompile\nload 1\nint x main { x := 1; }\ncompile\n")
	if got[1] != "error 8\n" || got[3] != "error 3\n" || got[5] != "error 9\n" {
		t.Error(got)
	}
}

func TestSubmit(t *testing.T) {
	got := play(t, double, "submit ann 2 0 0 10 1\nint x main { x -= 2; }\npoints ann\nsubmit ann 2 0 0 10 1\nint x main { x -= 2; }\npoints ann\npoints bob\nsubmit bob 2 0 0 10 1\nint x main { x -= 1; }\nsubmit bob 1 0 1 10 1\nint x main { x -= 2; local k = 1 / (x + 1) { } delocal 1 / (x + 1); }\npoints bob\nundo\npoints ann\nundo\npoints ann\nundo\nundo\n")
	want := []string{"right 5\n", "points 1\n", "right 5\n", "points 2\n", "points 0\n", "wrong 1 0\nx 0\nin\nout\n", "wrong 6 11\nx -1\nin\nout\n", "points 0\n", "", "points 1\n", "", "points 0\n", "", "error 20\n"}
	for i := range want {
		if got[i] != want[i] {
			t.Errorf("%d: %q", i, got[i])
		}
	}
	got = play(t, "load 1\nint x stack s stack t main { x += 2; }\n", "submit ann 1 2 1 10 1\nint x stack s stack t main { x -= 2; }\nsubmit ann 1 2 1 0 1\nint x stack s stack t main { x -= 2; }\n")
	if got[0] != "right 2028\n" || got[1] != "right 0\n" {
		t.Errorf("%q", got)
	}
	got = play(t, double, "submit ann 2 0 0 10 1\nint x main {\nsubmit ann -1 0 0 10 1\nint x main {\nsubmit ann -1 0 0 10 1\nint x main { y += 1; }\nsubmit ann 2 0 0 -1 1\nint x main { }\nsubmit ann 2 0 0 10 1\nint x main { y += 1; }\nsubmit ann 2 0 0 10 1\nint x main { x := 1; }\nsubmit ann 2 0 0 10 1\nmain { }\npoints ann\nundo\nundo\n")
	want = []string{"error 4\n", "error 4\n", "error 1\n", "error 1\n", "error 3\n", "error 9\n", "error 7\n", "points 0\n", "", "error 20\n"}
	if !slices.Equal(got, want) {
		t.Errorf("%q", got)
	}
}

func TestDo(t *testing.T) {
	s := shell.New()
	for _, c := range []script.Command{{}, {Kind: script.Show, Name: "x"}, {Kind: script.RunForward}} {
		if out, e := s.Do(c); out != "" || e != api.ErrForm {
			t.Error(out, e)
		}
		if l, e := s.Play([]script.Command{{Kind: script.LoadProgram, Text: "main { }\n"}, c}); len(l) != 0 || e != api.ErrForm {
			t.Error(l, e)
		}
	}
	if s.Transcript() != "" || s.Undo() != api.ErrState {
		t.Error("nothing was executed", s.Transcript())
	}
	if out, e := s.Do(script.Command{Kind: script.Show}); out != "" || e != api.ErrState {
		t.Error(out, e)
	}
	nums := []int{4, 5}
	s.Do(script.Command{Kind: script.LoadProgram, Text: "main { }\n"})
	s.Do(script.Command{Kind: script.SetInput, Nums: nums})
	nums[0] = 99
	if out, e := s.Do(script.Command{Kind: script.Show}); out != "in 4 5\nout\n" || e != api.OK {
		t.Error(out, e)
	}
	if s.Undo() != api.OK {
		t.Error("Undo")
	}
	if want := "> show\nerror 20\n> load 1\nvariables 0 procedures 0\n> input 4 5\ninput 2\n> show\nin 4 5\nout\n"; s.Transcript() != want {
		t.Errorf("%q", s.Transcript())
	}
	var none *shell.Shell
	if out, e := none.Do(script.Command{}); out != "" || e != api.ErrArg {
		t.Error(out, e)
	}
	if l, e := none.Play([]script.Command{{}}); len(l) != 0 || e != api.ErrArg {
		t.Error(l, e)
	}
	if none.Undo() != api.ErrArg || none.Transcript() != "" {
		t.Error("nil shell")
	}
}

func TestScriptsInParts(t *testing.T) {
	commands := parse(t, double+"show\nrun 5\nback 0\ncompile\nstep 2\nsubmit ann 2 0 0 10 1\nint x main { x -= 2; }\nrun 1\nundo\nstep 1\nfunctions 1\nproc f() int { 3 }\nevaluate f\nundo\nundo\npoints ann\nshow\n")
	whole := shell.New()
	want, _ := whole.Play(commands)
	for k := range commands {
		s := shell.New()
		a, _ := s.Play(commands[:k])
		b, _ := s.Play(commands[k:])
		if !slices.Equal(append(a, b...), want) || s.Transcript() != whole.Transcript() {
			t.Error("parts", k)
		}
	}
}

func TestUndoEverything(t *testing.T) {
	show := func(s *shell.Shell) string {
		out, e := s.Do(script.Command{Kind: script.Show})
		return out + strconv.Itoa(int(e))
	}
	for seed := range 60 {
		text, _ := printer.Program(sample.Program(seed))
		s := shell.New()
		var shows []string
		for _, c := range []script.Command{{Kind: script.LoadProgram, Text: text}, {Kind: script.SetInput, Nums: []int{1, 2}}, {Kind: script.RunForward, Nums: []int{500}}, {Kind: script.Compile}, {Kind: script.StepTime, Nums: []int{20}}, {Kind: script.RunBackward, Nums: []int{500}}, {Kind: script.Invert}} {
			before := show(s)
			if _, e := s.Do(c); e == api.OK {
				shows = append(shows, before)
			} else if show(s) != before {
				t.Fatal("a command that fails has no effect", seed, c)
			}
		}
		for i := len(shows) - 1; i >= 0; i-- {
			if s.Undo() != api.OK || show(s) != shows[i] {
				t.Fatal("undo", seed, i)
			}
		}
		if s.Undo() != api.ErrState {
			t.Fatal("nothing is left to undo", seed)
		}
	}
}
