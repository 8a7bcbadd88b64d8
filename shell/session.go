package shell

import (
	"maps"
	"slices"
	"strconv"
	"strings"

	"backstep/api"
	"backstep/bennett"
	"backstep/checker"
	"backstep/compiler"
	"backstep/debugger"
	"backstep/enumerate"
	"backstep/exercise"
	"backstep/funeval"
	"backstep/funtext"
	"backstep/grader"
	"backstep/interp"
	"backstep/inverter"
	"backstep/parser"
	"backstep/peephole"
	"backstep/printer"
	"backstep/scope"
	"backstep/script"
	"backstep/state"
)

const (
	evaluateFuel = 100000
	runFuel      = 1000000
	maxTime      = 1000000
)

// session is copied before each change. Nothing that it refers to is modified, except the debugger: copies share it, and seek their own time before they use it.
type session struct {
	loaded   bool
	prog     api.Program
	state    api.State
	debugger *debugger.Debugger
	time     int
	lib      []api.Func
	points   map[string]int
}

// handler executes a command, and reports whether it has an effect.
type handler func(s *session, c script.Command) (out string, effect bool, e api.Errno)

func handlers() map[byte]handler {
	return map[byte]handler{
		script.LoadProgram: (*session).load,
		script.SetInput:    (*session).input,
		script.RunForward:  (*session).forward,
		script.RunBackward: (*session).backward,
		script.Check:       (*session).check,
		script.Invert:      (*session).invert,
		script.Compile:     (*session).compile,
		script.StepTime:    (*session).step,
		script.Show:        (*session).show,
		script.Functions:   (*session).functions,
		script.Evaluate:    (*session).evaluate,
		script.Submit:      (*session).submit,
		script.Points:      (*session).pointsOf,
	}
}

// line returns a line of words.
func line(words ...string) string { return strings.Join(words, " ") + "\n" }

func (s *session) load(c script.Command) (string, bool, api.Errno) {
	p, _, e := parser.Program(c.Text)
	if e != api.OK {
		return "", false, e
	}
	st, e := state.New(p.Vars, nil)
	if e != api.OK {
		return "", false, e
	}
	s.loaded, s.prog, s.state, s.debugger = true, p, st, nil
	return line("variables", strconv.Itoa(len(p.Vars)), "procedures", strconv.Itoa(len(p.Procs))), true, api.OK
}

func (s *session) input(c script.Command) (string, bool, api.Errno) {
	if !s.loaded {
		return "", false, api.ErrState
	}
	s.state.In, s.debugger = slices.Clone(c.Nums), nil
	return line("input", strconv.Itoa(len(c.Nums))), true, api.OK
}

func (s *session) forward(c script.Command) (string, bool, api.Errno) {
	return s.run(interp.Forward, c.Nums[0])
}

func (s *session) backward(c script.Command) (string, bool, api.Errno) {
	return s.run(interp.Backward, c.Nums[0])
}

func (s *session) run(direction func(api.Program, api.State, int) interp.Result, fuel int) (string, bool, api.Errno) {
	if !s.loaded {
		return "", false, api.ErrState
	}
	r := direction(s.prog, s.state, fuel)
	if r.Err != api.OK {
		return "", false, r.Err
	}
	s.state, s.debugger = r.State, nil
	return line("steps", strconv.Itoa(r.Steps)), true, api.OK
}

func (s *session) check(c script.Command) (string, bool, api.Errno) {
	if !s.loaded {
		return "", false, api.ErrState
	}
	if checker.OK(s.prog) {
		return line("accepted"), false, api.OK
	}
	out := ""
	for _, f := range scope.Check(s.prog) {
		out += problem("fault", f.Proc, f.Path, f.Err, f.Name)
	}
	for _, r := range checker.Check(s.prog) {
		out += problem("reject", r.Proc, r.Path, r.Err, r.Name)
	}
	return out, false, api.OK
}

// problem returns the line of a fault or a rejection. A program has rejections only if it has no faults.
func problem(word string, proc int, path []int, e api.Errno, name string) string {
	var indices []string
	for _, i := range path {
		indices = append(indices, strconv.Itoa(i))
	}
	return line(word, strconv.Itoa(proc), orMinus(strings.Join(indices, ".")), strconv.Itoa(int(e)), orMinus(name))
}

func orMinus(s string) string {
	if s == "" {
		return "-"
	}
	return s
}

func (s *session) invert(c script.Command) (string, bool, api.Errno) {
	if !s.loaded {
		return "", false, api.ErrState
	}
	p, e := inverter.Program(s.prog)
	if e != api.OK {
		return "", false, e
	}
	text, e := printer.Program(p)
	if e != api.OK {
		return "", false, e
	}
	s.prog, s.debugger = p, nil
	return text, true, api.OK
}

func (s *session) compile(c script.Command) (string, bool, api.Errno) {
	if !s.loaded {
		return "", false, api.ErrState
	}
	im, e := compiler.Program(s.prog)
	if e != api.OK {
		return "", false, e
	}
	m, e := compiler.Load(s.prog, im, s.state)
	if e != api.OK {
		return "", false, e
	}
	d, e := debugger.New(im, m)
	if e != api.OK {
		return "", false, e
	}
	s.debugger, s.time = d, 0
	n := len(im.Code)
	return line("code", strconv.Itoa(n), "optimized", strconv.Itoa(n-peephole.Removed(im)), "cells", strconv.Itoa(im.Mem), "stacks", strconv.Itoa(im.Stacks)), true, api.OK
}

func (s *session) step(c script.Command) (string, bool, api.Errno) {
	by := c.Nums[0]
	if s.debugger == nil {
		return "", false, api.ErrState
	}
	if by < -s.time || by > maxTime-s.time {
		return "", false, api.ErrRange
	}
	if e := s.debugger.Seek(s.time); e != api.OK {
		return "", false, e
	}
	if e := s.debugger.Seek(s.time + by); e != api.OK {
		return "", false, e
	}
	s.time += by
	return line("time", strconv.Itoa(s.time), "position", strconv.Itoa(s.debugger.Machine().PC)), true, api.OK
}

func (s *session) show(c script.Command) (string, bool, api.Errno) {
	if !s.loaded {
		return "", false, api.ErrState
	}
	return s.lines(s.state), false, api.OK
}

// lines returns the lines of show for a state of the loaded program.
func (s *session) lines(st api.State) string {
	out := ""
	for i, v := range s.prog.Vars {
		out += line(append([]string{v.Name}, words(st.Cells[i])...)...)
	}
	return out + line(append([]string{"in"}, words(st.In)...)...) + line(append([]string{"out"}, words(st.Out)...)...)
}

func words(l []int) []string {
	var words []string
	for _, n := range l {
		words = append(words, strconv.Itoa(n))
	}
	return words
}

func (s *session) functions(c script.Command) (string, bool, api.Errno) {
	lib, _, e := funtext.Parse(c.Text)
	if e != api.OK {
		return "", false, e
	}
	s.lib = lib
	return line("functions", strconv.Itoa(len(lib))), true, api.OK
}

func (s *session) evaluate(c script.Command) (string, bool, api.Errno) {
	args, e := arguments(c.Nums)
	if e != api.OK {
		return "", false, e
	}
	v, e := funeval.Call(s.lib, c.Name, args, evaluateFuel)
	if e != api.OK {
		return "", false, e
	}
	_, steps, e := bennett.Run(s.lib, c.Name, nil, args, runFuel)
	if e != api.OK {
		return "", false, e
	}
	text := strconv.Itoa(v.N)
	if v.List {
		text = "[" + strings.Join(words(v.L), " ") + "]"
	}
	return line("value", text, "steps", strconv.Itoa(steps)), false, api.OK
}

// arguments reads values: 0 and an integer, or 1, a length, and the elements of a list.
func arguments(nums []int) ([]api.Value, api.Errno) {
	var args []api.Value
	for len(nums) > 0 {
		if len(nums) < 2 {
			return nil, api.ErrForm
		}
		kind, n := nums[0], nums[1]
		nums = nums[2:]
		switch {
		case kind == 0:
			args = append(args, api.Value{N: n})
		case kind == 1 && n >= 0 && n <= len(nums):
			args = append(args, api.Value{List: true, L: nums[:n]})
			nums = nums[n:]
		default:
			return nil, api.ErrForm
		}
	}
	return args, api.OK
}

// submit gives the student a point for a right answer.
func (s *session) submit(c script.Command) (string, bool, api.Errno) {
	if !s.loaded {
		return "", false, api.ErrState
	}
	answer, _, e := parser.Program(c.Text)
	if e != api.OK {
		return "", false, e
	}
	box := enumerate.Box{Value: c.Nums[0], Length: c.Nums[1], Input: c.Nums[2]}
	v, e := grader.Grade(exercise.Exercise{Name: "task", Points: 1, Fuel: c.Nums[3], Box: box, Given: s.prog}, answer)
	if e != api.OK {
		return "", false, e
	}
	tried := strconv.Itoa(v.Tried)
	if !v.OK {
		return line("wrong", tried, strconv.Itoa(int(v.Err))) + s.lines(v.State), false, api.OK
	}
	points := maps.Clone(s.points)
	if points == nil {
		points = map[string]int{}
	}
	points[c.Name]++
	s.points = points
	return line("right", tried), true, api.OK
}

func (s *session) pointsOf(c script.Command) (string, bool, api.Errno) {
	return line("points", strconv.Itoa(s.points[c.Name])), false, api.OK
}
