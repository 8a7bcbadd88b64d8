package image_test

import (
	"slices"
	"strings"
	"testing"

	"backstep/api"
	"backstep/asm"
	"backstep/image"
	"backstep/isa"
)

// code parses instructions that are separated by commas.
func code(t *testing.T, s string) api.Image {
	t.Helper()
	l, at, e := asm.Parse(strings.ReplaceAll(s, ", ", "\n") + "\n")
	if e != api.OK {
		t.Fatal(s, at, e)
	}
	return api.Image{Code: l, Mem: 4, Stacks: 2}
}

func TestCheck(t *testing.T) {
	for s, want := range map[string]struct {
		at int
		e  api.Errno
	}{
		"jmp 2, nop, land 0":                     {-1, api.OK},
		"jmpz r0 2, nop, landn r1 0":             {-1, api.OK},
		"land 2, nop, jmpn r3 0":                 {-1, api.OK},
		"call 1, start 2, end 1":                 {-1, api.OK},
		"start 2, call 0, end 0, uncall 0, halt": {-1, api.OK},
		"start 3, jmp 2, land 1, end 0":          {-1, api.OK},
		"jmp 9":                                  {0, api.ErrJump},
		"nop, jmp 1":                             {1, api.ErrJump},
		"jmp 1, jmp 0":                           {0, api.ErrJump},
		"land 1, land 0":                         {0, api.ErrJump},
		"jmp 2, jmp 2, land 1":                   {0, api.ErrJump},
		"jmp 1, land 2, jmp 1":                   {0, api.ErrJump},
		"nop, land 0":                            {1, api.ErrJump},
		"start 1, start 0":                       {0, api.ErrJump},
		"end 1, start 0":                         {0, api.ErrJump},
		"start 0":                                {0, api.ErrJump},
		"nop, end 0":                             {1, api.ErrJump},
		"start 1, land 0":                        {0, api.ErrJump},
		"jmp 1, end 0":                           {0, api.ErrJump},
		"call 0":                                 {0, api.ErrJump},
		"call 2, start 2, end 1":                 {0, api.ErrJump},
		"call 1, start 7":                        {0, api.ErrJump},
		"uncall 8":                               {0, api.ErrJump},
		"start 3, start 2, end 1, end 0":         {1, api.ErrState},
		"start 2, start 3, end 0, end 1":         {1, api.ErrState},
		"jmp 2, start 3, land 0, end 1":          {0, api.ErrState},
		"start 2, jmp 3, end 0, land 1":          {1, api.ErrState},
		"start 2, jmp 4, end 0, start 5, land 1, end 3": {1, api.ErrState},
		"start 5, start 3, jmp 4, end 1, land 2, end 0": {1, api.ErrState},
		"start 1, end 0, start 3, end 2, jmp 5, land 4": {-1, api.OK},
		"land 2, start 3, jmp 0, end 1":                 {0, api.ErrState},
		"jmp 3, start 2, end 1, land 0":                 {-1, api.OK},
		"start 2, start 9, end 0":                       {1, api.ErrJump},
	} {
		at, e := image.Check(code(t, s))
		if at != want.at || e != want.e || image.Valid(code(t, s)) != (want.e == api.OK) {
			t.Errorf("%s: %d, %d", s, at, e)
		}
	}
}

func TestCheckLimits(t *testing.T) {
	nops := make([]api.Instr, api.MaxCode)
	for i, c := range []struct {
		im   api.Image
		want api.Errno
	}{
		{api.Image{Stacks: 1}, api.OK}, {api.Image{Code: nops, Mem: api.MaxCells, Stacks: api.MaxCells}, api.OK}, {api.Image{}, api.ErrRange},
		{api.Image{Stacks: api.MaxCells + 1}, api.ErrRange}, {api.Image{Mem: -1, Stacks: 1}, api.ErrRange}, {api.Image{Mem: api.MaxCells + 1, Stacks: 1}, api.ErrRange},
		{api.Image{Code: append(nops, api.Instr{Op: 99}), Stacks: 1}, api.ErrRange},
	} {
		if at, e := image.Check(c.im); at != -1 || e != c.want {
			t.Errorf("case %d: %d, %d", i, at, e)
		}
	}
	bad := api.Image{Code: []api.Instr{{}, {Op: api.OpJmp, A: 5}, {Op: 200}}, Stacks: 1}
	if at, e := image.Check(bad); at != 1 || e != api.ErrJump {
		t.Error("the first fault", at, e)
	}
	bad.Code[1] = api.Instr{Op: api.OpJmp, A: -1}
	if at, e := image.Check(bad); at != 1 || e != api.ErrForm {
		t.Error("invalid instruction", at, e)
	}
	if at, e := image.Check(api.Image{Code: []api.Instr{{Op: api.OpJmpZ, A: 99, B: 1}, {Op: api.OpLand}}, Stacks: 1}); at != 0 || e != api.ErrForm {
		t.Error(at, e)
	}
}

func TestManyNestedProcedures(t *testing.T) {
	n := 30000
	var im api.Image
	im.Stacks = 1
	for i := range n {
		im.Code = append(im.Code, api.Instr{Op: api.OpStart, A: 2*n - 1 - i})
	}
	for i := range n {
		im.Code = append(im.Code, api.Instr{Op: api.OpEnd, A: n - 1 - i})
	}
	if at, e := image.Check(im); at != 1 || e != api.ErrState {
		t.Error(at, e)
	}
}

func TestPartner(t *testing.T) {
	im := code(t, "jmp 2, nop, land 0, start 4, end 3, jmp 2, call 3")
	for i, want := range map[int]int{0: 2, 2: 0, 3: 4, 4: 3} {
		if p, ok := image.Partner(im, i); p != want || !ok {
			t.Error(i, p, ok)
		}
	}
	for _, i := range []int{-1, 1, 5, 6, 7} {
		if p, ok := image.Partner(im, i); p != 0 || ok {
			t.Error(i, p, ok)
		}
	}
	invalid := api.Image{Code: []api.Instr{{Op: api.OpJmp, A: 1, B: 1}, {Op: api.OpLand}}}
	if _, ok := image.Partner(invalid, 1); ok {
		t.Error("an invalid instruction has no partner")
	}
}

func TestInvert(t *testing.T) {
	for s, want := range map[string]string{
		"jmp 2, nop, land 0":     "jmp 2, nop, land 0",
		"call 1, start 2, end 1": "start 1, end 0, call 0",
		"addi r1 5, jmpz r1 3, neg r2, landn r3 1, halt, start 8, push r1 1, uncall 5, end 5": "start 3, uncall 0, pop r1 1, end 0, halt, jmpn r3 7, neg r2, landz r1 5, subi r1 5",
		"read r1, write r2, frame 1 2, add r1 r2, xor r2 r3":                                  "xor r2 r3, sub r1 r2, unframe 1 2, unwrite r2, unread r1",
	} {
		im := code(t, s)
		got, e := image.Invert(im)
		if e != api.OK || !slices.Equal(got.Code, code(t, want).Code) || got.Mem != 4 || got.Stacks != 2 || !image.Valid(got) {
			t.Errorf("%s: %v, %d", s, got, e)
		}
		again, _ := image.Invert(got)
		if !slices.Equal(again.Code, im.Code) || !slices.Equal(im.Code, code(t, s).Code) {
			t.Errorf("%s: the inverse of the inverse", s)
		}
	}
	if im, e := image.Invert(code(t, "jmp 5")); e != api.ErrJump || len(im.Code) != 0 || im.Stacks != 0 {
		t.Error(im, e)
	}
	if im, e := image.Invert(api.Image{Mem: 5}); e != api.ErrRange || im.Mem != 0 {
		t.Error(im, e)
	}
}

func TestConcatenation(t *testing.T) {
	a := code(t, "jmpz r1 2, nop, landn r3 0, call 4, start 5, end 4")
	b := code(t, "start 1, end 0, uncall 0, land 4, jmp 3")
	both := api.Image{Code: slices.Clone(a.Code), Mem: 4, Stacks: 2}
	for _, i := range b.Code {
		if at, ok := isa.Target(i); ok {
			i = isa.Retarget(i, at+len(a.Code))
		}
		both.Code = append(both.Code, i)
	}
	if !image.Valid(a) || !image.Valid(b) || !image.Valid(both) {
		t.Error("concatenation")
	}
}

func TestProcsAndHalt(t *testing.T) {
	im := code(t, "start 1, end 0, halt, start 9, halt")
	if l := image.Procs(im); !slices.Equal(l, []int{0, 3}) {
		t.Error(l)
	}
	if i, ok := image.Halt(im); i != 2 || !ok {
		t.Error(i, ok)
	}
	im = code(t, "nop")
	if i, ok := image.Halt(im); i != 0 || ok || len(image.Procs(im)) != 0 {
		t.Error(i, ok)
	}
}
