package trace_test

import (
	"slices"
	"testing"

	"backstep/api"
	"backstep/internal/sample"
	"backstep/interp"
	"backstep/inverter"
	"backstep/parser"
	"backstep/state"
	"backstep/trace"
)

func parse(t *testing.T, s string) api.Program {
	t.Helper()
	p, pos, e := parser.Program(s)
	if e != api.OK {
		t.Fatalf("%q: %d, %d", s, pos, e)
	}
	return p
}

func change(cell, at, old, new int) state.Change {
	return state.Change{Cell: cell, At: at, Old: old, New: new}
}

func one(x int) api.State { return api.State{Cells: [][]int{{x}}} }

func same(a, b []trace.Event) bool {
	return slices.EqualFunc(a, b, func(x, y trace.Event) bool { return slices.Equal(x, y) })
}

func TestOf(t *testing.T) {
	for text, want := range map[string][]trace.Event{
		"int x main { }":                                                   {},
		"int x main { x += 1; x -= 1; }":                                   {{change(0, 0, 0, 1)}, {change(0, 0, 1, 0)}},
		"int x main { if 1 { } else { } fi 1; }":                           {{}, {}},
		"int x main { x <=> x; x += 0; }":                                  {{}, {}},
		"int x main { local k = 2 { k += 1; x += k; } delocal 3; }":        {{}, {}, {change(0, 0, 0, 3)}, {}},
		"int x proc f(int y) { y += 4; } main { call f(x); uncall f(x); }": {{}, {change(0, 0, 0, 4)}, {}, {}, {change(0, 0, 4, 0)}, {}},
		"int x main { from x == 0 { x += 1; } loop { } until x == 2; }":    {{}, {change(0, 0, 0, 1)}, {}, {}, {change(0, 0, 1, 2)}, {}},
	} {
		got, e := trace.Of(parse(t, text), one(0), 100)
		if !same(got, want) || e != api.OK {
			t.Errorf("%q: %v, %d", text, got, e)
		}
	}
	p := parse(t, "int x main { read x; write x; }")
	got, _ := trace.Of(p, api.State{Cells: [][]int{{0}}, In: []int{7, 8}}, 2)
	want := []trace.Event{{change(0, 0, 0, 7), change(-1, -1, 2, 1), change(-1, 1, 7, 0)}, {change(0, 0, 7, 0), change(-2, -1, 0, 1), change(-2, 0, 0, 7)}}
	if !same(got, want) {
		t.Error(got)
	}
}

func TestOfErrors(t *testing.T) {
	p := parse(t, "int x main { x += 1; if x { } else { } fi !x; }")
	if l, e := trace.Of(p, one(0), 100); len(l) != 0 || e != api.ErrAssert {
		t.Error(l, e)
	}
	if l, e := trace.Of(p, one(0), 2); len(l) != 0 || e != api.ErrFuel {
		t.Error(l, e)
	}
	if l, e := trace.Of(api.Program{}, one(0), 2); len(l) != 0 || e != api.ErrForm {
		t.Error(l, e)
	}
	if l, e := trace.Of(p, api.State{}, 2); len(l) != 0 || e != api.ErrState {
		t.Error(l, e)
	}
}

func TestNew(t *testing.T) {
	s := one(5)
	l := []trace.Event{{change(0, 0, 5, 6)}, {}, {change(0, 0, 6, 9)}}
	c, e := trace.New(s, l)
	if e != api.OK || c.Pos() != 0 || !state.Equal(c.State(), one(5)) {
		t.Fatal(e)
	}
	s.Cells[0][0] = 77
	l[0][0].New = 77
	l[2] = nil
	c.State().Cells[0][0] = 77
	if c.Seek(3) != api.OK || !state.Equal(c.State(), one(9)) {
		t.Error("the cursor shares memory", c.State())
	}
	for _, bad := range []struct {
		l    []trace.Event
		want api.Errno
	}{{[]trace.Event{{change(0, 0, 5, 6)}, {change(0, 0, 5, 6)}}, api.ErrState}, {[]trace.Event{{change(4, 0, 0, 1)}, {change(0, 0, 0, 0)}}, api.ErrRange}} {
		if c, e := trace.New(one(5), bad.l); c != nil || e != bad.want {
			t.Error(e)
		}
	}
}

func TestMoves(t *testing.T) {
	c, _ := trace.New(one(0), []trace.Event{{change(0, 0, 0, 1)}, {change(0, 0, 1, 3)}})
	if c.Prev() || c.Pos() != 0 {
		t.Error("Prev at the start")
	}
	for i, x := range []int{1, 3} {
		if !c.Next() || c.Pos() != i+1 || !state.Equal(c.State(), one(x)) {
			t.Error("Next", i)
		}
	}
	if c.Next() || c.Pos() != 2 || !state.Equal(c.State(), one(3)) {
		t.Error("Next at the end")
	}
	if !c.Prev() || c.Pos() != 1 || !state.Equal(c.State(), one(1)) {
		t.Error("Prev")
	}
	for _, pos := range []int{-1, 3} {
		if c.Seek(pos) != api.ErrRange || c.Pos() != 1 || !state.Equal(c.State(), one(1)) {
			t.Error("Seek", pos)
		}
	}
	for pos, x := range []int{0, 1, 3} {
		if c.Seek(pos) != api.OK || c.Pos() != pos || !state.Equal(c.State(), one(x)) {
			t.Error("Seek", pos)
		}
	}
}

func TestRest(t *testing.T) {
	c, _ := trace.New(one(0), []trace.Event{{change(0, 0, 0, 1)}, {change(0, 0, 1, 3)}, {}})
	c.Next()
	var positions, values []int
	for pos, s := range c.Rest() {
		positions, values = append(positions, pos), append(values, s.Cells[0][0])
		s.Cells[0][0] = 99
	}
	if !slices.Equal(positions, []int{1, 2, 3}) || !slices.Equal(values, []int{1, 3, 3}) || c.Pos() != 1 || !state.Equal(c.State(), one(1)) {
		t.Error(positions, values)
	}
	for pos := range c.Rest() {
		if pos == 2 {
			break
		}
	}
	if c.Pos() != 1 {
		t.Error("Rest moves the cursor")
	}
}

func TestNilCursor(t *testing.T) {
	var c *trace.Cursor
	if c.Next() || c.Prev() || c.Pos() != 0 || !state.Equal(c.State(), api.State{}) || c.Seek(0) != api.ErrArg {
		t.Error("nil cursor")
	}
	for range c.Rest() {
		t.Error("states of a nil cursor")
	}
}

func TestRandomRuns(t *testing.T) {
	for seed := range 1500 {
		p, s := sample.Program(seed), sample.State(seed)
		r := interp.Forward(p, s, 1000)
		l, e := trace.Of(p, s, 1000)
		if e != r.Err || len(l) != r.Steps {
			t.Fatalf("program %d: %d events, %d", seed, len(l), e)
		}
		if e != api.OK {
			continue
		}
		c, e := trace.New(s, l)
		if e != api.OK || c.Seek(len(l)) != api.OK || !state.Equal(c.State(), r.State) {
			t.Fatalf("program %d: the last state", seed)
		}
		inverse, _ := inverter.Program(p)
		back, _ := trace.Of(inverse, r.State, 1000)
		for i, event := range back {
			if !slices.EqualFunc(event, l[len(l)-1-i], func(a, b state.Change) bool {
				return a.Cell == b.Cell && a.At == b.At && a.Old == b.New && a.New == b.Old
			}) {
				t.Fatalf("program %d: step %d of the backward run", seed, i)
			}
		}
	}
}
