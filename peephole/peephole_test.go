package peephole_test

import (
	"slices"
	"strings"
	"testing"

	"backstep/api"
	"backstep/asm"
	"backstep/compiler"
	"backstep/cpu"
	"backstep/image"
	"backstep/internal/sample"
	"backstep/peephole"
	"backstep/vm"
)

func code(t *testing.T, s string) []api.Instr {
	t.Helper()
	if s == "" {
		return nil
	}
	l, at, e := asm.Parse(strings.ReplaceAll(s, ", ", "\n") + "\n")
	if e != api.OK {
		t.Fatal(s, at, e)
	}
	return l
}

func TestCancels(t *testing.T) {
	for s, want := range map[string]bool{
		"addi r1 5, subi r1 5": true, "subi r1 5, addi r1 5": true, "addi r1 5, subi r1 6": false, "addi r1 5, addi r1 5": false, "addi r1 5, subi r2 5": false, "addi r1 5, addi r1 -5": false,
		"xor r1 r2, xor r1 r2": true, "swap r1 r2, swap r1 r2": true, "swap r1 r2, swap r2 r1": false, "neg r1, neg r1": true, "calc r1 r2 r3 +, calc r1 r2 r3 +": true, "mem r1 2, mem r1 2": true, "idx r1 r2 0 4, idx r1 r2 0 4": true,
		"push r1 0, pop r1 0": true, "pop r1 0, push r1 0": true, "read r1, unread r1": true, "unwrite r1, write r1": true, "top r1 1, top r1 1": true, "size r1 1, size r1 1": true, "swaps 1 2, swaps 1 2": true, "frame 1 2, unframe 1 2": true, "unframe 1 2, frame 1 2": true,
		"nop, nop": false, "halt, halt": false, "zero r1 14, zero r1 14": false, "call 1, call 1": false, "uncall 1, uncall 1": false, "start 1, end 1": false, "end 1, start 1": false, "jmp 1, land 1": false, "landz r1 1, jmpz r1 1": false, "jmpn r1 1, landn r1 1": false,
	} {
		l := code(t, s)
		if peephole.Cancels(l[0], l[1]) != want {
			t.Error(s)
		}
	}
	bad := api.Instr{Op: api.OpNeg, A: 99}
	if peephole.Cancels(bad, bad) || peephole.Cancels(api.Instr{Op: 200}, api.Instr{Op: 200}) {
		t.Error("invalid instructions")
	}
}

func TestOptimize(t *testing.T) {
	for s, want := range map[string]string{
		"":                           "",
		"addi r1 5, subi r1 5, halt": "halt",
		"addi r1 5, addi r2 1, subi r2 1, subi r1 5":                       "",
		"zero r1 14, zero r1 14":                                           "zero r1 14, zero r1 14",
		"neg r1, neg r1, neg r1":                                           "neg r1",
		"nop, neg r1, nop, neg r1":                                         "nop, neg r1, nop, neg r1",
		"neg r2, neg r2, jmpz r1 4, nop, landn r1 2, neg r1, neg r1, halt": "jmpz r1 2, nop, landn r1 0, halt",
		"neg r1, jmp 2, land 1, neg r1":                                    "neg r1, jmp 2, land 1, neg r1",
		"mem r1 0, mem r1 0, call 6, swap r1 r2, swap r1 r2, halt, start 9, push r1 0, pop r1 0, end 6": "call 2, halt, start 3, end 2",
	} {
		im := api.Image{Code: code(t, s), Mem: 3, Stacks: 2}
		got, e := peephole.Optimize(im)
		if e != api.OK || !slices.Equal(got.Code, code(t, want)) || got.Mem != 3 || got.Stacks != 2 {
			t.Errorf("%s: %v, %d", s, got, e)
		}
		if n := peephole.Removed(im); n != len(im.Code)-len(got.Code) {
			t.Error(s, n)
		}
		if len(got.Code) > 0 {
			got.Code[0].Op = 99
			if !slices.Equal(im.Code, code(t, s)) {
				t.Error("the result shares memory with the argument")
			}
		}
	}
	for _, bad := range []api.Image{{}, {Code: code(t, "neg r1, neg r1, jmp 0"), Stacks: 1}} {
		_, want := image.Check(bad)
		if im, e := peephole.Optimize(bad); e != want || len(im.Code) != 0 || peephole.Removed(bad) != 0 {
			t.Error(im, e)
		}
	}
}

func TestCompiledPrograms(t *testing.T) {
	removed, halted := 0, 0
	for seed := range 300 {
		p := sample.Program(seed)
		im, _ := compiler.Program(p)
		got, e := peephole.Optimize(im)
		if e != api.OK || !image.Valid(got) {
			t.Fatal(seed, e)
		}
		removed += peephole.Removed(im)
		for i := 1; i < len(got.Code); i++ {
			if peephole.Cancels(got.Code[i-1], got.Code[i]) {
				t.Fatal(seed, i)
			}
		}
		inverse, _ := image.Invert(im)
		a, _ := peephole.Optimize(inverse)
		b, _ := image.Invert(got)
		if !slices.Equal(a.Code, b.Code) {
			t.Fatal(seed, "inverse")
		}
		m, _ := compiler.Load(p, im, sample.State(seed))
		x, y := run(im, m), run(got, m)
		if x.e != api.OK {
			continue
		}
		halted++
		x.m.PC, y.m.PC = 0, 0
		if y.e != api.OK || y.steps > x.steps || !cpu.Equal(&x.m, &y.m) {
			t.Fatal(seed, y.e, x.steps, y.steps)
		}
	}
	if removed < 100 || halted < 50 {
		t.Error(removed, halted)
	}
}

type result struct {
	m     api.Machine
	steps int
	e     api.Errno
}

func run(im api.Image, m api.Machine) result {
	v, _ := vm.New(im, m, 30000)
	n, e := v.Run()
	return result{v.Machine(), n, e}
}
