package isa_test

import (
	"math"
	"strings"
	"testing"

	"backstep/api"
	"backstep/isa"
)

// rows is the table of the chapter: mnemonic, classes of the operands, and mnemonic of the inverse.
var rows = strings.Split(`nop  nop
add rr sub
sub rr add
xor rr xor
addi rn subi
subi rn addi
xori rn xori
swap rr swap
neg r neg
calc rrro calc
mem rk mem
idx rrkk idx
push rk pop
pop rk push
top rk top
size rk size
swaps kk swaps
read r unread
unread r read
write r unwrite
unwrite r write
zero re zero
jmp t land
jmpz rt landz
jmpn rt landn
land t jmp
landz rt jmpz
landn rt jmpn
frame kk unframe
unframe kk frame
call t call
uncall t uncall
start t end
end t start
halt  halt`, "\n")

var ranges = map[byte][2]int{
	'r': {0, api.Registers - 1}, 'k': {0, api.MaxCells}, 'n': {math.MinInt, math.MaxInt}, 't': {0, api.MaxCode - 1}, 'e': {1, 23}, 'o': {int(api.Add), int(api.Either)},
}

// valid returns an instruction with different operands.
func valid(op byte, classes string) api.Instr {
	i := api.Instr{Op: op}
	for j, p := range []*int{&i.A, &i.B, &i.C, &i.D} {
		if j < len(classes) {
			*p = max(ranges[classes[j]][0], 3+j)
			if classes[j] == 'o' {
				*p = int(api.Mul)
			}
		}
	}
	return i
}

func TestTable(t *testing.T) {
	if len(rows) != int(api.Opcodes) {
		t.Fatal(len(rows))
	}
	for op, line := range rows {
		f := strings.Split(line, " ")
		mnemonic, classes, inverse := f[0], f[1], f[2]
		if isa.Mnemonic(byte(op)) != mnemonic || isa.Operands(byte(op)) != len(classes) {
			t.Errorf("%s: %s, %d", mnemonic, isa.Mnemonic(byte(op)), isa.Operands(byte(op)))
		}
		i := valid(byte(op), classes)
		back := isa.Inverse(i)
		if !isa.Valid(i) || !isa.Valid(back) || isa.Mnemonic(back.Op) != inverse || isa.Inverse(back) != i || back.A != i.A || back.B != i.B || back.C != i.C || back.D != i.D {
			t.Errorf("%s: %v, inverse %v", mnemonic, i, back)
		}
		if isa.IsJump(byte(op)) != strings.HasPrefix(mnemonic, "jmp") || isa.IsLanding(byte(op)) != strings.HasPrefix(mnemonic, "land") {
			t.Errorf("%s: jump or landing", mnemonic)
		}
		checkOperands(t, byte(op), classes)
		checkTarget(t, i, strings.IndexByte(classes, 't'))
	}
}

// checkOperands sets one operand after the other to the bounds of its class, and beyond.
func checkOperands(t *testing.T, op byte, classes string) {
	for j := range 4 {
		try := func(x int) bool {
			i := valid(op, classes)
			*[]*int{&i.A, &i.B, &i.C, &i.D}[j] = x
			return isa.Valid(i)
		}
		if j >= len(classes) {
			if try(1) || try(-1) || !try(0) {
				t.Errorf("opcode %d: unused operand %d", op, j)
			}
			continue
		}
		r := ranges[classes[j]]
		if !try(r[0]) || !try(r[1]) {
			t.Errorf("opcode %d: bounds of operand %d", op, j)
		}
		if classes[j] != 'n' && (try(r[0]-1) || try(r[1]+1)) {
			t.Errorf("opcode %d: operand %d beyond the bounds", op, j)
		}
	}
}

func checkTarget(t *testing.T, i api.Instr, at int) {
	target, ok := isa.Target(i)
	moved := isa.Retarget(i, 77)
	if ok != (at >= 0) || !ok && (target != 0 || moved != i) {
		t.Errorf("%v: target %d, %v", i, target, ok)
		return
	}
	if !ok {
		return
	}
	want := i
	old := *[]*int{&want.A, &want.B}[at]
	*[]*int{&want.A, &want.B}[at] = 77
	if target != old || moved != want {
		t.Errorf("%v: target %d, moved %v", i, target, moved)
	}
}

func TestEqualRegisters(t *testing.T) {
	for _, i := range []api.Instr{{Op: api.OpAdd, A: 1, B: 1}, {Op: api.OpSub, A: 1, B: 1}, {Op: api.OpXor, A: 2, B: 2}, {Op: api.OpIdx, A: 2, B: 2}, {Op: api.OpCalc, A: 1, B: 1, C: 2, D: int(api.Add)}, {Op: api.OpCalc, A: 2, B: 1, C: 2, D: int(api.Add)}} {
		if isa.Valid(i) {
			t.Error(i)
		}
	}
	for _, i := range []api.Instr{{Op: api.OpSwap, A: 1, B: 1}, {Op: api.OpCalc, A: 1, B: 2, C: 2, D: int(api.Add)}} {
		if !isa.Valid(i) {
			t.Error(i)
		}
	}
}

func TestUnknownOpcodes(t *testing.T) {
	for op := int(api.Opcodes); op < 256; op++ {
		i := api.Instr{Op: byte(op), A: 1}
		target, ok := isa.Target(i)
		if isa.Valid(i) || isa.Valid(api.Instr{Op: byte(op)}) || isa.Inverse(i) != i || isa.Mnemonic(i.Op) != "" || isa.Operands(i.Op) != 0 || isa.IsJump(i.Op) || isa.IsLanding(i.Op) || target != 0 || ok || isa.Retarget(i, 5) != i {
			t.Error("opcode", op)
		}
	}
}
