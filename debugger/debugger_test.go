package debugger_test

import (
	"strings"
	"testing"

	"backstep/api"
	"backstep/asm"
	"backstep/compiler"
	"backstep/cpu"
	"backstep/debugger"
	"backstep/parser"
)

func load(t *testing.T, s string) (api.Image, api.Machine) {
	t.Helper()
	l, at, e := asm.Parse(strings.ReplaceAll(s, ", ", "\n") + "\n")
	if e != api.OK {
		t.Fatal(s, at, e)
	}
	im := api.Image{Code: l, Mem: 2, Stacks: 2}
	m, e := cpu.New(im, nil)
	if e != api.OK {
		t.Fatal(e)
	}
	return im, m
}

func open(t *testing.T, s string) *debugger.Debugger {
	t.Helper()
	d, e := debugger.New(load(t, s))
	if e != api.OK {
		t.Fatal(e)
	}
	return d
}

func TestNew(t *testing.T) {
	im, m := load(t, "addi r1 5, halt")
	d, e := debugger.New(im, m)
	if e != api.OK || d.Time() != 0 {
		t.Fatal(e)
	}
	im.Code[0] = api.Instr{Op: api.OpHalt}
	m.M[0] = 9
	d.Step()
	got := d.Machine()
	if got.R[1] != 5 || got.M[0] != 0 {
		t.Error("the debugger shares memory with the arguments")
	}
	got.M[1] = 4
	if d.Machine().M[1] != 0 {
		t.Error("Machine shares memory")
	}
	m.PC = 7
	if d, e := debugger.New(im, m); d != nil || e != api.ErrState {
		t.Error(e)
	}
	if d, e := debugger.New(api.Image{Code: []api.Instr{{Op: api.OpJmp, A: 5}}, Stacks: 1}, m); d != nil || e != api.ErrJump {
		t.Error(e)
	}
	if d, e := debugger.New(api.Image{}, m); d != nil || e != api.ErrRange {
		t.Error(e)
	}
}

func TestStepAndBack(t *testing.T) {
	d := open(t, "addi r1 5, zero r1 14, halt")
	if e := d.Back(); e != api.ErrEnd || d.Time() != 0 {
		t.Error(e)
	}
	im, m := load(t, "addi r1 5, halt")
	m.PC = 1
	later, _ := debugger.New(im, m)
	if e := later.Back(); e != api.ErrEnd || later.Machine().PC != 1 {
		t.Error("time 0 is where the debugger started", e)
	}
	if e := d.Step(); e != api.OK || d.Time() != 1 || d.Machine().R[1] != 5 {
		t.Error(e)
	}
	before := d.Machine()
	if e := d.Step(); e != api.ErrClear || d.Time() != 1 {
		t.Error(e)
	}
	if after := d.Machine(); !cpu.Equal(&before, &after) {
		t.Error("a failed step changes nothing")
	}
	if e := d.Back(); e != api.OK || d.Time() != 0 || d.Machine().R[1] != 0 {
		t.Error(e)
	}
}

func TestSeek(t *testing.T) {
	d := open(t, "addi r1 5, addi r1 7, halt")
	if e := d.Seek(2); e != api.OK || d.Machine().R[1] != 12 || d.Time() != 2 {
		t.Error(e)
	}
	if e := d.Seek(1); e != api.OK || d.Machine().R[1] != 5 || d.Time() != 1 {
		t.Error(e)
	}
	if i, ok := d.Next(); !ok || i != (api.Instr{Op: api.OpAddI, A: 1, B: 7}) {
		t.Error(i, ok)
	}
	for time, want := range map[int]api.Errno{3: api.ErrEnd, 1000: api.ErrEnd, -1: api.ErrRange, 1: api.OK} {
		if e := d.Seek(time); e != want || d.Time() != 1 || d.Machine().R[1] != 5 {
			t.Error(time, e)
		}
	}
}

func TestNext(t *testing.T) {
	d := open(t, "uncall 2, halt, start 4, neg r1, end 2")
	want := []struct {
		op byte
		ok bool
	}{{api.OpUncall, true}, {api.OpNeg, true}, {api.OpStart, true}, {api.OpHalt, true}}
	for _, w := range want {
		if i, ok := d.Next(); i.Op != w.op || ok != w.ok {
			t.Error(i, ok)
		}
		d.Step()
	}
	if i, ok := open(t, "nop").Next(); i.Op != api.OpNop || !ok {
		t.Error(i, ok)
	}
	d = open(t, "neg r1")
	d.Step()
	if i, ok := d.Next(); i != (api.Instr{}) || ok {
		t.Error("at the end", i, ok)
	}
	im, m := load(t, "neg r1")
	m.Dir = -1
	d, _ = debugger.New(im, m)
	if i, ok := d.Next(); i != (api.Instr{}) || ok {
		t.Error("before the start", i, ok)
	}
}

func TestFinish(t *testing.T) {
	text := "call 2, halt, start 6, nop, call 7, nop, end 2, start 9, nop, end 7"
	d := open(t, text)
	if e := d.Finish(100); e != api.ErrState {
		t.Error(e)
	}
	d.Seek(1)
	for most := -1; most < 6; most++ {
		if e := d.Finish(most); e != api.ErrFuel || d.Time() != 1 {
			t.Error(most, e, d.Time())
		}
	}
	if e := d.Finish(6); e != api.OK || d.Time() != 7 {
		t.Error(e, d.Time())
	}
	d.Seek(3)
	if e := d.Finish(2); e != api.OK || d.Time() != 5 || len(d.Machine().Calls) != 1 {
		t.Error(e, d.Time())
	}
	d.Seek(1)
	if e := d.Finish(100); e != api.OK || d.Time() != 7 || len(d.Machine().Calls) != 0 {
		t.Error(e, d.Time())
	}
	d = open(t, "addi r1 1, call 3, halt, start 6, nop, zero r1 14, end 3")
	d.Seek(2)
	if e := d.Finish(100); e != api.ErrClear || d.Time() != 2 {
		t.Error(e, d.Time())
	}
}

func TestTimeDeterminesTheMachine(t *testing.T) {
	p, _, _ := parser.Program("int x int y main { from x == 0 { x += 1; } loop { y += x; } until x == 20; }")
	im, _ := compiler.Program(p)
	m, _ := compiler.Load(p, im, api.State{Cells: [][]int{{0}, {0}}})
	d, e := debugger.New(im, m)
	if e != api.OK {
		t.Fatal(e)
	}
	machines := map[int]api.Machine{}
	for _, time := range []int{1000, 10, 1000, 0, 500, 10, 500, 1000, 0} {
		if e := d.Seek(time); e != api.OK || d.Time() != time {
			t.Fatal(time, e)
		}
		now := d.Machine()
		if before, ok := machines[time]; ok && !cpu.Equal(&now, &before) {
			t.Error("different machines at time", time)
		}
		machines[time] = now
	}
	first := machines[0]
	if !cpu.Equal(&first, &m) {
		t.Error("time 0")
	}
}

func TestNil(t *testing.T) {
	var d *debugger.Debugger
	if d.Step() != api.ErrArg || d.Back() != api.ErrArg || d.Seek(-1) != api.ErrArg || d.Finish(0) != api.ErrArg || d.Time() != 0 {
		t.Error("nil debugger")
	}
	if i, ok := d.Next(); i != (api.Instr{}) || ok {
		t.Error(i, ok)
	}
	m, zero := d.Machine(), api.Machine{}
	if !cpu.Equal(&m, &zero) {
		t.Error(m)
	}
}
