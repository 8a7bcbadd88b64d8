package vm_test

import (
	"strings"
	"testing"

	"backstep/api"
	"backstep/asm"
	"backstep/cpu"
	"backstep/vm"
)

func load(t *testing.T, s string) (api.Image, api.Machine) {
	t.Helper()
	l, at, e := asm.Parse(strings.ReplaceAll(s, ", ", "\n") + "\n")
	if e != api.OK {
		t.Fatal(s, at, e)
	}
	im := api.Image{Code: l, Mem: 2, Stacks: 2}
	m, e := cpu.New(im, nil)
	if e != api.OK {
		t.Fatal(e)
	}
	return im, m
}

func open(t *testing.T, s string, fuel int) *vm.VM {
	t.Helper()
	im, m := load(t, s)
	v, e := vm.New(im, m, fuel)
	if e != api.OK {
		t.Fatal(e)
	}
	return v
}

func TestNew(t *testing.T) {
	im, m := load(t, "addi r1 5, halt")
	unfit := m
	unfit.PC = 9
	bad := im
	bad.Code = []api.Instr{{Op: api.OpJmp, A: 3}}
	for _, c := range []struct {
		im   api.Image
		m    api.Machine
		fuel int
		want api.Errno
	}{
		{im, m, 0, api.OK}, {im, m, api.MaxFuel, api.OK}, {im, m, -1, api.ErrRange}, {im, m, api.MaxFuel + 1, api.ErrRange},
		{im, unfit, -1, api.ErrState}, {bad, unfit, -1, api.ErrJump}, {api.Image{}, m, 0, api.ErrRange},
	} {
		v, e := vm.New(c.im, c.m, c.fuel)
		if e != c.want || (v != nil) != (e == api.OK) {
			t.Error(v, e)
		}
	}
	v, _ := vm.New(im, m, 5)
	im.Code[0] = api.Instr{Op: api.OpHalt}
	m.M[0] = 9
	v.Step()
	got := v.Machine()
	if got.R[1] != 5 || got.M[0] != 0 {
		t.Error("the VM shares memory with the arguments", got)
	}
	got.M[0], got.R[1] = 7, 7
	if again := v.Machine(); again.M[0] != 0 || again.R[1] != 5 {
		t.Error("Machine shares memory")
	}
}

func TestExample(t *testing.T) {
	v := open(t, "addi r1 5, halt", 3)
	if n, e := v.Run(); n != 1 || e != api.OK || v.Machine().R[1] != 5 || v.Fuel() != 2 || v.Ticks() != 1 || !v.Halted() {
		t.Error(n, e, v.Machine())
	}
	if n, e := v.Run(); n != 0 || e != api.OK {
		t.Error("a halted VM", n, e)
	}
	if n, e := v.RunBack(); n != 1 || e != api.OK || v.Machine().R[1] != 0 || v.Fuel() != 3 || v.Ticks() != 0 || v.Halted() {
		t.Error(n, e, v.Machine())
	}
	if n, e := v.RunBack(); n != 0 || e != api.OK {
		t.Error(n, e)
	}
}

func TestStepAndBack(t *testing.T) {
	v := open(t, "addi r1 1, zero r1 14, halt", 2)
	if e := v.Back(); e != api.ErrEnd {
		t.Error(e)
	}
	if e := v.Step(); e != api.OK || v.Fuel() != 1 || v.Ticks() != 1 {
		t.Error(e)
	}
	before := v.Machine()
	if e := v.Step(); e != api.ErrClear || v.Fuel() != 1 || v.Ticks() != 1 {
		t.Error("a step that fails takes no fuel", e)
	}
	after := v.Machine()
	if !cpu.Equal(&before, &after) {
		t.Error("a step that fails changes nothing")
	}
	if n, e := v.Run(); n != 0 || e != api.ErrClear {
		t.Error(n, e)
	}
	if e := v.Back(); e != api.OK || v.Fuel() != 2 || v.Ticks() != 0 {
		t.Error(e)
	}
	v = open(t, "addi r1 1, halt", 0)
	if e := v.Step(); e != api.ErrFuel {
		t.Error(e)
	}
	v = open(t, "halt", 0)
	if n, e := v.Run(); n != 0 || e != api.OK {
		t.Error("no fuel is needed", n, e)
	}
}

func TestBackKeepsMachinesThatStartElsewhere(t *testing.T) {
	im, m := load(t, "addi r1 1, addi r1 2, halt")
	m.PC = 1
	v, _ := vm.New(im, m, 5)
	if v.Back() != api.ErrEnd || v.Machine().PC != 1 {
		t.Error("Back ends where the VM started")
	}
	m.PC, m.Dir = 2, -1
	v, _ = vm.New(im, m, 5)
	if v.Halted() {
		t.Error("a machine that moves backward is not halted")
	}
	if n, e := v.Run(); n != 2 || e != api.ErrEnd || v.Machine().R[1] != -3 {
		t.Error(n, e)
	}
	if n, e := v.RunBack(); n != 2 || e != api.OK || v.Machine().R[1] != 0 {
		t.Error(n, e)
	}
}

func TestHalted(t *testing.T) {
	if !open(t, "halt", 0).Halted() || open(t, "nop", 0).Halted() {
		t.Error("at the start")
	}
	v := open(t, "nop", 1)
	v.Step()
	if !v.Halted() {
		t.Error("at the end of the code")
	}
	v = open(t, "call 2, halt, start 4, halt, end 2", 9)
	if n, e := v.Run(); n != 1 || e != api.ErrEnd || v.Halted() {
		t.Error("in a procedure", n, e)
	}
}

func TestRunsAndFuel(t *testing.T) {
	text := "addi r1 3, call 3, halt, start 6, subi r1 1, push r1 1, end 3"
	whole := open(t, text, 100)
	n, e := whole.Run()
	if n != 5 || e != api.OK || whole.Fuel()+whole.Ticks() != 100 {
		t.Fatal(n, e)
	}
	end := whole.Machine()
	for fuel := range n {
		v := open(t, text, fuel)
		first := v.Machine()
		k, e := v.Run()
		if k != fuel || e != api.ErrFuel || v.Fuel() != 0 {
			t.Error(k, e)
		}
		if back, e := v.RunBack(); back != fuel || e != api.OK || v.Fuel() != fuel {
			t.Error(back, e)
		}
		if now := v.Machine(); !cpu.Equal(&now, &first) {
			t.Error("RunBack", fuel)
		}
		v.Run()
		if e := v.Add(n - fuel); e != api.OK {
			t.Error(e)
		}
		if k, e := v.Run(); k != n-fuel || e != api.OK {
			t.Error(k, e)
		}
		if now := v.Machine(); !cpu.Equal(&now, &end) {
			t.Error("run in two parts", fuel)
		}
	}
}

func TestAdd(t *testing.T) {
	v := open(t, "nop", 5)
	for _, c := range []struct {
		fuel int
		want api.Errno
		now  int
	}{{-1, api.ErrRange, 5}, {api.MaxFuel - 4, api.ErrFull, 5}, {1<<63 - 1, api.ErrFull, 5}, {-1 << 63, api.ErrRange, 5}, {0, api.OK, 5}, {api.MaxFuel - 5, api.OK, api.MaxFuel}, {1, api.ErrFull, api.MaxFuel}} {
		if e := v.Add(c.fuel); e != c.want || v.Fuel() != c.now || v.Ticks() != 0 {
			t.Error(c, e, v.Fuel())
		}
	}
}

func TestNil(t *testing.T) {
	var v *vm.VM
	if v.Step() != api.ErrArg || v.Back() != api.ErrArg || v.Add(-1) != api.ErrArg || v.Fuel() != 0 || v.Ticks() != 0 || v.Halted() {
		t.Error("nil VM")
	}
	if n, e := v.Run(); n != 0 || e != api.ErrArg {
		t.Error(n, e)
	}
	if n, e := v.RunBack(); n != 0 || e != api.ErrArg {
		t.Error(n, e)
	}
	m, zero := v.Machine(), api.Machine{}
	if !cpu.Equal(&m, &zero) {
		t.Error(m)
	}
}
