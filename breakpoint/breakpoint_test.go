package breakpoint_test

import (
	"slices"
	"strings"
	"testing"

	"backstep/api"
	"backstep/asm"
	"backstep/breakpoint"
	"backstep/cpu"
	"backstep/debugger"
)

// open returns a debugger for code that counts the cell 0 from 0 to 3 and back to 0; each step of the counter takes three instructions.
func open(t *testing.T) *debugger.Debugger {
	t.Helper()
	up := strings.Repeat("mem r1 0\naddi r1 1\nmem r1 0\n", 3)
	down := strings.Repeat("mem r1 0\nsubi r1 1\nmem r1 0\n", 3)
	l, _, e := asm.Parse(up + down + "halt\n")
	if e != api.OK {
		t.Fatal(e)
	}
	im := api.Image{Code: l, Mem: 1, Stacks: 1}
	m, _ := cpu.New(im, nil)
	d, e := debugger.New(im, m)
	if e != api.OK {
		t.Fatal(e)
	}
	return d
}

func is(value int) func(m api.Machine) bool {
	return func(m api.Machine) bool { return m.M[0] == value && m.R[1] == 0 }
}

func never(m api.Machine) bool { return false }

func TestNext(t *testing.T) {
	d := open(t)
	if !breakpoint.Next(d, 100, breakpoint.Changed(0, 0)) || d.Time() != 3 || d.Machine().M[0] != 1 {
		t.Error(d.Time())
	}
	if !breakpoint.Next(d, 100, is(3)) || d.Time() != 9 {
		t.Error(d.Time())
	}
	if breakpoint.Next(d, 2, is(2)) || d.Time() != 9 {
		t.Error("too few steps", d.Time())
	}
	if !breakpoint.Next(d, 3, is(2)) || d.Time() != 12 {
		t.Error("just enough steps", d.Time())
	}
	if breakpoint.Next(d, 1000, is(3)) || d.Time() != 12 {
		t.Error("a step on the way fails", d.Time())
	}
	if breakpoint.Next(d, 0, is(2)) || breakpoint.Next(d, -1, is(2)) || d.Time() != 12 {
		t.Error("no steps")
	}
	d.Seek(18)
	if breakpoint.Next(d, 5, is(0)) || d.Time() != 18 {
		t.Error("there is no later time")
	}
}

func TestPrev(t *testing.T) {
	d := open(t)
	d.Seek(18)
	if !breakpoint.Prev(d, 100, func(m api.Machine) bool { return m.M[0] == 1 }) || d.Time() != 15 {
		t.Error(d.Time())
	}
	if !breakpoint.Prev(d, 100, is(3)) || d.Time() != 9 {
		t.Error(d.Time())
	}
	if breakpoint.Prev(d, 2, is(2)) || d.Time() != 9 || !breakpoint.Prev(d, 3, is(2)) || d.Time() != 6 {
		t.Error(d.Time())
	}
	if breakpoint.Prev(d, 100, is(3)) || d.Time() != 6 {
		t.Error("no earlier time", d.Time())
	}
	d.Seek(0)
	if breakpoint.Prev(d, 5, is(0)) || d.Time() != 0 {
		t.Error("there is no earlier time")
	}
	d.Seek(6)
	if breakpoint.Prev(d, 0, is(2)) || breakpoint.Prev(d, -5, is(1)) || d.Time() != 6 {
		t.Error("no steps")
	}
}

func TestNextAndPrevFindTheSameTimes(t *testing.T) {
	d := open(t)
	var there, back []int
	for breakpoint.Next(d, 100, is(2)) {
		there = append(there, d.Time())
	}
	d.Seek(18)
	for breakpoint.Prev(d, 100, is(2)) {
		back = append(back, d.Time())
	}
	slices.Reverse(back)
	if !slices.Equal(there, []int{6, 12}) || !slices.Equal(back, there) {
		t.Error(there, back)
	}
}

func TestLast(t *testing.T) {
	for _, c := range []struct {
		start, most int
		test        func(m api.Machine) bool
		time        int
		ok          bool
	}{
		{0, 1000, is(2), 12, true}, {0, 11, is(2), 6, true}, {0, 12, is(2), 12, true}, {6, 0, is(2), 6, true}, {5, 0, is(2), 0, false}, {13, 100, is(2), 0, false}, {12, 100, is(2), 12, true},
		{6, -1, is(2), 0, false}, {0, 100, never, 0, false}, {0, 0, is(0), 0, true}, {0, 1000, is(0), 18, true},
	} {
		d := open(t)
		d.Seek(c.start)
		if time, ok := breakpoint.Last(d, c.most, c.test); time != c.time || ok != c.ok || d.Time() != c.start {
			t.Error(c.start, c.most, time, ok)
		}
	}
}

func TestPredicates(t *testing.T) {
	m := api.Machine{PC: 3, M: []int{0, 5}}
	if !breakpoint.AtPC(3)(m) || breakpoint.AtPC(2)(m) {
		t.Error("AtPC")
	}
	for _, c := range []struct {
		cell, from int
		want       bool
	}{{0, 0, false}, {0, 1, true}, {1, 5, false}, {1, 0, true}, {2, 1, false}, {-1, 1, false}} {
		if breakpoint.Changed(c.cell, c.from)(m) != c.want {
			t.Error(c)
		}
	}
}

func TestBisect(t *testing.T) {
	later := func(n int) func(m api.Machine) bool { return func(m api.Machine) bool { return m.PC >= n } }
	for _, c := range []struct {
		lo, hi int
		test   func(m api.Machine) bool
		time   int
		want   api.Errno
	}{
		{0, 18, later(7), 7, api.OK}, {0, 18, later(1), 1, api.OK}, {0, 18, later(18), 18, api.OK}, {6, 7, later(7), 7, api.OK}, {3, 9, is(3), 9, api.OK},
		{-1, 5, later(7), 0, api.ErrRange}, {5, 5, later(7), 0, api.ErrRange}, {6, 5, later(7), 0, api.ErrRange}, {0, 19, later(7), 0, api.ErrEnd}, {18, 1000, later(7), 0, api.ErrEnd},
		{7, 18, later(7), 0, api.ErrState}, {0, 6, later(7), 0, api.ErrState}, {-1, -2, nil, 0, api.ErrArg},
	} {
		for _, start := range []int{0, 5, 18} {
			d := open(t)
			d.Seek(start)
			if time, e := breakpoint.Bisect(d, c.lo, c.hi, c.test); time != c.time || e != c.want || d.Time() != start {
				t.Error(c.lo, c.hi, time, e, d.Time())
			}
		}
	}
	var seen []int
	breakpoint.Bisect(open(t), 0, 18, func(m api.Machine) bool { seen = append(seen, m.PC); return m.PC >= 7 })
	seen = slices.DeleteFunc(seen, func(time int) bool { return time == 0 || time == 18 })
	if !slices.Equal(seen, []int{9, 4, 6, 7}) {
		t.Error("the middle is (lo + hi) / 2", seen)
	}
}

func TestNil(t *testing.T) {
	d := open(t)
	d.Seek(5)
	if breakpoint.Next(nil, 5, is(1)) || breakpoint.Prev(nil, 5, is(1)) || breakpoint.Next(d, 5, nil) || breakpoint.Prev(d, 5, nil) {
		t.Error("nil arguments")
	}
	if time, ok := breakpoint.Last(nil, 5, is(1)); time != 0 || ok {
		t.Error(time, ok)
	}
	if time, ok := breakpoint.Last(d, 5, nil); time != 0 || ok || d.Time() != 5 {
		t.Error(time, ok)
	}
	if time, e := breakpoint.Bisect(nil, -1, 0, is(1)); time != 0 || e != api.ErrArg {
		t.Error(time, e)
	}
}
