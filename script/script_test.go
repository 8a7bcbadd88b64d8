package script_test

import (
	"slices"
	"strings"
	"testing"

	"backstep/api"
	"backstep/script"
)

func all() []script.Command {
	return []script.Command{
		{Kind: script.LoadProgram, Text: "main {\n}\n"}, {Kind: script.LoadProgram}, {Kind: script.SetInput}, {Kind: script.SetInput, Nums: []int{1, -2, 0}}, {Kind: script.RunForward, Nums: []int{5}}, {Kind: script.RunBackward, Nums: []int{-1 << 63}},
		{Kind: script.Check}, {Kind: script.Invert}, {Kind: script.Compile}, {Kind: script.StepTime, Nums: []int{1<<63 - 1}}, {Kind: script.Show}, {Kind: script.Functions, Text: "any \x00\xff bytes\n\n"}, {Kind: script.Evaluate, Name: "f"}, {Kind: script.Evaluate, Name: "f2", Nums: []int{1, 0, 0, 7}},
		{Kind: script.Submit, Name: "ann", Nums: []int{1, 2, 3, 4}, Text: "x\n"}, {Kind: script.Undo}, {Kind: script.Points, Name: "ann"},
	}
}

const text = "load 2\nmain {\n}\nload 0\ninput\ninput 1 -2 0\nrun 5\nback -9223372036854775808\ncheck\ninvert\ncompile\nstep 9223372036854775807\nshow\nfunctions 2\nany \x00\xff bytes\n\nevaluate f\nevaluate f2 1 0 0 7\nsubmit ann 1 2 3 4 1\nx\nundo\npoints ann\n"

func same(a, b script.Command) bool {
	return a.Kind == b.Kind && a.Name == b.Name && a.Text == b.Text && slices.Equal(a.Nums, b.Nums)
}

func TestFormatAndParse(t *testing.T) {
	if s, e := script.Format(all()); s != text || e != api.OK || !script.Valid(all()) {
		t.Errorf("%q, %d", s, e)
	}
	l, at, e := script.Parse(text)
	if at != 0 || e != api.OK || !slices.EqualFunc(l, all(), same) {
		t.Error(l, at, e)
	}
	if s, e := script.Format(nil); s != "" || e != api.OK {
		t.Error(s, e)
	}
	if l, at, e := script.Parse(""); len(l) != 0 || at != 0 || e != api.OK {
		t.Error(l, at, e)
	}
	twice, _, e := script.Parse(text + text)
	if e != api.OK || !slices.EqualFunc(twice, append(all(), all()...), same) {
		t.Error("concatenation", e)
	}
	if script.LoadProgram != 1 || script.Points != 14 {
		t.Error("numbers of the kinds")
	}
}

func TestInvalidCommands(t *testing.T) {
	for _, c := range all() {
		variants := []script.Command{c, c, c, c, c}
		variants[0].Kind = 0
		variants[1].Kind = 15
		variants[2].Nums = append(slices.Clone(c.Nums), make([]int, api.MaxTape+1)...)
		variants[3].Text += "no line feed"
		variants[4].Name = "Not a name"
		if c.Name == "" {
			v := c
			v.Name = "x"
			variants = append(variants, v)
		} else {
			v := c
			v.Name = ""
			variants = append(variants, v)
			v.Name = "main"
			variants = append(variants, v)
		}
		if c.Kind != script.SetInput && c.Kind != script.Evaluate {
			v := c
			v.Nums = append(slices.Clone(c.Nums), 1)
			variants = append(variants, v)
		}
		if c.Kind != script.LoadProgram && c.Kind != script.Functions && c.Kind != script.Submit {
			v := c
			v.Text = "text\n"
			variants = append(variants, v)
		} else {
			v := c
			v.Text = strings.Repeat("x", api.MaxText) + "\n"
			variants = append(variants, v)
		}
		for i, v := range variants {
			if script.Valid([]script.Command{v}) {
				t.Error(i, v.Kind)
			}
			if s, e := script.Format([]script.Command{c, v}); s != "" || e != api.ErrForm {
				t.Error(i, v.Kind, e)
			}
		}
	}
	long := script.Command{Kind: script.LoadProgram, Text: strings.Repeat("x", api.MaxText-1) + "\n"}
	wide := script.Command{Kind: script.SetInput, Nums: make([]int, api.MaxTape)}
	for _, c := range []script.Command{long, wide} {
		s, e := script.Format([]script.Command{c})
		if l, _, e2 := script.Parse(s); e != api.OK || e2 != api.OK || len(l) != 1 || !same(l[0], c) {
			t.Error(e, e2)
		}
	}
	many := slices.Repeat([]script.Command{{Kind: script.Undo}}, 1001)
	if script.Valid(many) || !script.Valid(many[:1000]) {
		t.Error("number of commands")
	}
}

func TestParseErrors(t *testing.T) {
	for s, want := range map[string]api.Errno{
		"show": api.ErrEnd, "garbage": api.ErrEnd, "garbage\n": api.ErrForm, "\n": api.ErrForm, " show\n": api.ErrForm, "show \n": api.ErrForm, "show 1\n": api.ErrForm, "Show\n": api.ErrForm, "show\r\n": api.ErrForm,
		"run\n": api.ErrForm, "run 1 2\n": api.ErrForm, "run x\n": api.ErrForm, "run  1\n": api.ErrForm, "run 01\n": api.ErrForm, "run +1\n": api.ErrForm, "run -0\n": api.ErrForm, "run 1_0\n": api.ErrForm, "run 9223372036854775808\n": api.ErrForm, "run -9223372036854775809\n": api.ErrForm,
		"input 1 \n": api.ErrForm, "input 1  2\n": api.ErrForm, "points\n": api.ErrForm, "points Ann\n": api.ErrForm, "points main\n": api.ErrForm, "points ann 1\n": api.ErrForm, "points 1\n": api.ErrForm, "evaluate\n": api.ErrForm, "evaluate 1\n": api.ErrForm,
		"load\n": api.ErrForm, "load -1\n": api.ErrForm, "load x\n": api.ErrForm, "load 1 1\nx\n": api.ErrForm, "load 1\n": api.ErrEnd, "load 2\nx\n": api.ErrEnd, "load 1\nx": api.ErrEnd, "load 9223372036854775807\nx\n": api.ErrEnd, "load 01\nx\n": api.ErrForm,
		"submit ann 1 2 3 4\n": api.ErrForm, "submit ann 1 2 3 4 5 1\nx\n": api.ErrForm, "submit ann 1 2 3 4 -1\n": api.ErrForm, "submit ann 1 2 3 4 1\n": api.ErrEnd, "submit 1 2 3 4 0\n": api.ErrForm,
		"load 2\n" + strings.Repeat("x", api.MaxText) + "\n\n": api.ErrForm, "load 3\n" + strings.Repeat("x", api.MaxText) + "\n\n": api.ErrEnd, "input" + strings.Repeat(" 1", api.MaxTape+1) + "\n": api.ErrForm,
	} {
		l, at, e := script.Parse("load 1\nx\ncheck\n" + s + "")
		if len(l) != 0 || at != 4 || e != want {
			t.Errorf("%.40q: %d, %d", s, at, e)
		}
	}
	full := strings.Repeat("load 1\nx\n", script.MaxCommands)
	if l, at, e := script.Parse(full); len(l) != script.MaxCommands || at != 0 || e != api.OK {
		t.Error(at, e)
	}
	for _, s := range []string{"show\n", "garbage", "x\n"} {
		if l, at, e := script.Parse(full + s); len(l) != 0 || at != 2001 || e != api.ErrFull {
			t.Error(at, e)
		}
	}
	if l, _, _ := script.Parse("points ann\n"); !slices.EqualFunc(l, []script.Command{{Kind: script.Points, Name: "ann"}}, same) {
		t.Error(l)
	}
}
