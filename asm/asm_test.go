package asm_test

import (
	"bytes"
	"math"
	"slices"
	"strings"
	"testing"

	"backstep/api"
	"backstep/asm"
	"backstep/isa"
)

const text = `nop
add r0 r15
sub r1 r2
xor r3 r2
addi r0 -5
subi r9 9223372036854775807
xori r1 -9223372036854775808
swap r4 r4
neg r7
calc r1 r2 r3 +
calc r1 r2 r2 ||
mem r1 16384
idx r1 r2 0 16
push r3 0
pop r3 12
top r3 1
size r3 16384
swaps 0 3
read r1
unread r1
write r1
unwrite r15
zero r0 23
jmp 65535
jmpz r0 7
jmpn r1 0
land 3
landz r0 7
landn r2 8
frame 0 1
unframe 16384 16384
call 5
uncall 6
start 7
end 8
halt
`

func TestFormatAndParse(t *testing.T) {
	l, at, e := asm.Parse(text)
	if at != 0 || e != api.OK || len(l) != strings.Count(text, "\n") {
		t.Fatal(at, e)
	}
	if l[4] != (api.Instr{Op: api.OpAddI, B: -5}) || l[9] != (api.Instr{Op: api.OpCalc, A: 1, B: 2, C: 3, D: int(api.Add)}) || l[12] != (api.Instr{Op: api.OpIdx, A: 1, B: 2, D: 16}) || l[24] != (api.Instr{Op: api.OpJmpZ, B: 7}) {
		t.Error(l)
	}
	if s, e := asm.Format(l); s != text || e != api.OK {
		t.Error(s, e)
	}
	seen := map[byte]bool{}
	for _, i := range l {
		seen[i.Op] = true
	}
	if len(seen) != int(api.Opcodes) {
		t.Error("not all opcodes are tested")
	}
	for op := api.Add; op <= api.Either; op++ {
		code := []api.Instr{{Op: api.OpCalc, A: 1, D: int(op)}}
		s, _ := asm.Format(code)
		if back, _, e := asm.Parse(s); !slices.Equal(back, code) || e != api.OK {
			t.Error(s)
		}
	}
	if l, at, e := asm.Parse(""); len(l) != 0 || at != 0 || e != api.OK {
		t.Error("the empty text", l, at, e)
	}
}

func TestParseErrors(t *testing.T) {
	for _, line := range []string{
		"", "nop ", " nop", "nop 0", "Nop", "noop", "add r0", "add r0 r0", "add r0 1", "add 0 r1", "add r0 r16", "add r0  r1", "add r0 r1 r2", "add r00 r1", "add r+1 r0", "add r-0 r1",
		"addi r0 05", "addi r0 +5", "addi r0 -0", "addi r0 r5", "addi r0 9223372036854775808", "addi r0 -9223372036854775809", "addi r0 0x1", "addi r0", "calc r1 r2 r3 add", "calc r1 r1 r2 +", "calc r1 r2 r3 !", "calc r1 r2 r3 +=",
		"mem r1 16385", "mem r1 -1", "zero r0 0", "zero r0 24", "jmp 65536", "jmp r1", "halt\r", "nop\t", "idx r1 r1 0 1", "swaps r0 1", "push r1 1_0",
	} {
		for _, s := range []string{line + "\n", line} {
			if s == "" {
				continue
			}
			if l, at, e := asm.Parse("nop\n" + s); len(l) != 0 || at != 2 || e != api.ErrForm {
				t.Errorf("%q: %d, %d", s, at, e)
			}
		}
	}
	if l, at, e := asm.Parse("nop\nhalt"); len(l) != 0 || at != 2 || e != api.ErrEnd {
		t.Error("without line feed", at, e)
	}
	full := strings.Repeat("nop\n", api.MaxCode)
	if l, _, e := asm.Parse(full); len(l) != api.MaxCode || e != api.OK {
		t.Error(e)
	}
	for _, s := range []string{"nop\n", "nop", "bad", "\n"} {
		if l, at, e := asm.Parse(full + s); len(l) != 0 || at != api.MaxCode+1 || e != api.ErrFull {
			t.Error(at, e)
		}
	}
}

func TestFormatErrors(t *testing.T) {
	for _, l := range [][]api.Instr{{{Op: api.Opcodes}}, {{}, {Op: api.OpAdd}}, {{Op: api.OpNop, A: 1}}} {
		if s, e := asm.Format(l); s != "" || e != api.ErrForm {
			t.Error(s, e)
		}
		if b, e := asm.Encode(l); len(b) != 0 || e != api.ErrForm {
			t.Error(b, e)
		}
	}
	long := make([]api.Instr, api.MaxCode+1)
	long[0].Op = 255
	if s, e := asm.Format(long); s != "" || e != api.ErrFull {
		t.Error(e)
	}
	if b, e := asm.Encode(long); len(b) != 0 || e != api.ErrFull {
		t.Error(e)
	}
	if b, e := asm.Encode(long[1:]); len(b) != 4+api.MaxCode || e != api.OK {
		t.Error(e)
	}
}

func TestBinary(t *testing.T) {
	if b, e := asm.Encode([]api.Instr{{Op: api.OpNeg, A: 7}}); !bytes.Equal(b, []byte{0, 0, 0, 1, 8, 7}) || e != api.OK {
		t.Error(b, e)
	}
	code := []api.Instr{{Op: api.OpXorI, A: 1, B: -2}, {Op: api.OpIdx, A: 1, B: 2, C: 258, D: 16}, {Op: api.OpZero, A: 3, B: 14}, {Op: api.OpJmpZ, A: 4, B: 65535}, {Op: api.OpCalc, A: 1, B: 2, C: 3, D: int(api.Add)}, {Op: api.OpHalt}}
	want := []byte{0, 0, 0, 6,
		api.OpXorI, 1, 255, 255, 255, 255, 255, 255, 255, 254,
		api.OpIdx, 1, 2, 0, 0, 1, 2, 0, 0, 0, 16,
		api.OpZero, 3, 14,
		api.OpJmpZ, 4, 0, 0, 255, 255,
		api.OpCalc, 1, 2, 3, api.Add,
		api.OpHalt}
	if b, e := asm.Encode(code); !bytes.Equal(b, want) || e != api.OK {
		t.Error(b, e)
	}
	all, _, _ := asm.Parse(text)
	for _, l := range [][]api.Instr{nil, code, all} {
		b, _ := asm.Encode(l)
		if got, e := asm.Decode(b); !slices.Equal(got, l) || e != api.OK {
			t.Error(got, e)
		}
		for n := range b {
			if got, e := asm.Decode(b[:n]); len(got) != 0 || e != api.ErrEnd {
				t.Error("beginning", n, e)
			}
		}
		if got, e := asm.Decode(append(slices.Clone(b), 0)); len(got) != 0 || e != api.ErrForm {
			t.Error("bytes remain", e)
		}
	}
}

func TestDecodeErrors(t *testing.T) {
	for i, c := range []struct {
		b    []byte
		want api.Errno
	}{
		{nil, api.ErrEnd}, {[]byte{0, 1, 0}, api.ErrEnd}, {[]byte{0, 1, 0, 1}, api.ErrFull}, {[]byte{255, 255, 255, 255}, api.ErrFull}, {[]byte{0, 1, 0, 0}, api.ErrEnd},
		{[]byte{0, 0, 0, 1, api.Opcodes}, api.ErrForm}, {[]byte{0, 0, 0, 2, 255, 1}, api.ErrForm}, {[]byte{0, 0, 0, 1, api.OpNeg}, api.ErrEnd}, {[]byte{0, 0, 0, 1, api.OpNeg, 16}, api.ErrForm},
		{[]byte{0, 0, 0, 1, api.OpAdd, 16}, api.ErrEnd}, {[]byte{0, 0, 0, 1, api.OpAdd, 1, 1}, api.ErrForm}, {[]byte{0, 0, 0, 1, api.OpMem, 1, 255, 255, 255, 255}, api.ErrForm},
		{[]byte{0, 0, 0, 1, api.OpZero, 1, 0}, api.ErrForm}, {[]byte{0, 0, 0, 1, api.OpCalc, 1, 2, 3, api.Not}, api.ErrForm}, {[]byte{0, 0, 0, 0, 0}, api.ErrForm}, {[]byte{0, 0, 0, 1, api.OpAdd, 1, 1, 9}, api.ErrForm},
	} {
		if l, e := asm.Decode(c.b); len(l) != 0 || e != c.want {
			t.Errorf("case %d: %d", i, e)
		}
	}
}

func TestAllOperandsOfAllOpcodes(t *testing.T) {
	values := []int{0, 1, 2, 7, 8, 15, 16, 23, 255, 256, api.MaxCells, api.MaxCode - 1, -1, math.MaxInt}
	for op := range api.Opcodes {
		for _, a := range values {
			for _, b := range values {
				for _, c := range []int{0, 3} {
					for _, d := range []int{0, 8, 16} {
						i := api.Instr{Op: op, A: a, B: b, C: c, D: d}
						if !isa.Valid(i) {
							continue
						}
						s, _ := asm.Format([]api.Instr{i})
						bin, _ := asm.Encode([]api.Instr{i})
						x, _, _ := asm.Parse(s)
						y, _ := asm.Decode(bin)
						if len(x) != 1 || len(y) != 1 || x[0] != i || y[0] != i {
							t.Fatal(i, s, bin)
						}
					}
				}
			}
		}
	}
}
