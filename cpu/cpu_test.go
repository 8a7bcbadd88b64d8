package cpu_test

import (
	"slices"
	"strings"
	"testing"

	"backstep/api"
	"backstep/asm"
	"backstep/cpu"
	"backstep/image"
)

// load parses instructions that are separated by commas.
func load(t *testing.T, s string) api.Image {
	t.Helper()
	l, at, e := asm.Parse(strings.ReplaceAll(s, ", ", "\n") + "\n")
	if e != api.OK {
		t.Fatal(s, at, e)
	}
	return api.Image{Code: l, Mem: 5, Stacks: 4}
}

func machine(t *testing.T, im api.Image) *api.Machine {
	t.Helper()
	m, e := cpu.New(im, nil)
	if e != api.OK {
		t.Fatal(e)
	}
	return &m
}

func TestNew(t *testing.T) {
	im := load(t, "addi r1 5, halt")
	in := []int{1, 2}
	m, e := cpu.New(im, in)
	in[0] = 9
	want := api.Machine{Dir: 1, M: make([]int, 5), S: make([][]int, 4), In: []int{1, 2}}
	if e != api.OK || !cpu.Equal(&m, &want) || !cpu.Fits(im, &m) {
		t.Error(m, e)
	}
	if m, e := cpu.New(load(t, "jmp 5"), make([]int, api.MaxTape+1)); e != api.ErrForm || m.Dir != 0 {
		t.Error(m, e)
	}
	if m, e := cpu.New(im, make([]int, api.MaxTape+1)); e != api.ErrFull || m.Dir != 0 {
		t.Error(m, e)
	}
}

func TestFits(t *testing.T) {
	im := load(t, "addi r1 5, halt")
	for title, c := range map[string]struct {
		change func(m *api.Machine)
		want   bool
	}{
		"unchanged":     {func(m *api.Machine) {}, true},
		"backward":      {func(m *api.Machine) { m.Dir = -1 }, true},
		"no direction":  {func(m *api.Machine) { m.Dir = 0 }, false},
		"direction 2":   {func(m *api.Machine) { m.Dir = 2 }, false},
		"PC at the end": {func(m *api.Machine) { m.PC = 2 }, true},
		"PC 3":          {func(m *api.Machine) { m.PC = 3 }, false},
		"PC -1":         {func(m *api.Machine) { m.PC = -1 }, false},
		"memory":        {func(m *api.Machine) { m.M = m.M[:4] }, false},
		"stacks":        {func(m *api.Machine) { m.S = m.S[:3] }, false},
		"no stacks":     {func(m *api.Machine) { m.S = nil }, false},
		"scratch stack": {func(m *api.Machine) { m.S[0] = make([]int, 1001) }, true},
		"full stack":    {func(m *api.Machine) { m.S[1] = make([]int, 1000) }, true},
		"long stack":    {func(m *api.Machine) { m.S[3] = make([]int, 1001) }, false},
		"calls":         {func(m *api.Machine) { m.Calls = make([]api.Activation, 100) }, true},
		"many calls":    {func(m *api.Machine) { m.Calls = make([]api.Activation, 101) }, false},
		"site 1":        {func(m *api.Machine) { m.Calls = []api.Activation{{Site: 1}} }, true},
		"site 2":        {func(m *api.Machine) { m.Calls = []api.Activation{{Site: 2}} }, false},
		"site -1":       {func(m *api.Machine) { m.Calls = []api.Activation{{Site: -1}} }, false},
		"input":         {func(m *api.Machine) { m.In = make([]int, 4096) }, true},
		"long input":    {func(m *api.Machine) { m.In = make([]int, 4097) }, false},
		"long output":   {func(m *api.Machine) { m.Out = make([]int, 4097) }, false},
		"FP 5":          {func(m *api.Machine) { m.FP = 5 }, true},
		"FP 6":          {func(m *api.Machine) { m.FP = 6 }, false},
		"FP -1":         {func(m *api.Machine) { m.FP = -1 }, false},
		"SB 4":          {func(m *api.Machine) { m.SB = 4 }, true},
		"SB 5":          {func(m *api.Machine) { m.SB = 5 }, false},
		"SB -1":         {func(m *api.Machine) { m.SB = -1 }, false},
	} {
		m := machine(t, im)
		c.change(m)
		if cpu.Fits(im, m) != c.want {
			t.Error(title)
		}
		before := cpu.Clone(m)
		if e := cpu.Step(im, m); !c.want && (e != api.ErrState || !cpu.Equal(m, before)) {
			t.Error(title, "step", e)
		}
		if e := cpu.Back(im, cpu.Clone(before)); !c.want && e != api.ErrState {
			t.Error(title, "step back", e)
		}
	}
	if cpu.Fits(im, nil) || cpu.Fits(api.Image{}, machine(t, im)) || cpu.Step(im, nil) != api.ErrArg || cpu.Back(im, nil) != api.ErrArg {
		t.Error("nil machine, or invalid image")
	}
}

// start returns a machine with something in every component.
func start(t *testing.T, im api.Image) *api.Machine {
	m := machine(t, im)
	m.R = [api.Registers]int{0, 6, 3, -2}
	m.M = []int{10, 11, 12, 13, 14}
	m.S = [][]int{{1}, {2, 3}, {}, {4}}
	m.In, m.Out = []int{5, 6}, []int{7}
	m.FP, m.SB = 1, 1
	return m
}

func TestStraightInstructions(t *testing.T) {
	for s, change := range map[string]func(m *api.Machine){
		"nop":             func(m *api.Machine) {},
		"add r1 r2":       func(m *api.Machine) { m.R[1] = 9 },
		"sub r1 r2":       func(m *api.Machine) { m.R[1] = 3 },
		"xor r1 r2":       func(m *api.Machine) { m.R[1] = 5 },
		"addi r1 -1":      func(m *api.Machine) { m.R[1] = 5 },
		"subi r1 -1":      func(m *api.Machine) { m.R[1] = 7 },
		"xori r1 2":       func(m *api.Machine) { m.R[1] = 4 },
		"swap r1 r2":      func(m *api.Machine) { m.R[1], m.R[2] = 3, 6 },
		"swap r1 r1":      func(m *api.Machine) {},
		"neg r1":          func(m *api.Machine) { m.R[1] = -6 },
		"calc r4 r1 r2 *": func(m *api.Machine) { m.R[4] = 18 },
		"calc r3 r1 r2 /": func(m *api.Machine) { m.R[3] = -2 ^ 2 },
		"mem r1 0":        func(m *api.Machine) { m.R[1], m.M[1] = 11, 6 },
		"mem r1 3":        func(m *api.Machine) { m.R[1], m.M[4] = 14, 6 },
		"idx r1 r2 0 4":   func(m *api.Machine) { m.R[1], m.M[4] = 14, 6 },
		"idx r2 r0 1 1":   func(m *api.Machine) { m.R[2], m.M[2] = 12, 3 },
		"push r1 0":       func(m *api.Machine) { m.R[1], m.S[0] = 0, []int{1, 6} },
		"push r1 1":       func(m *api.Machine) { m.R[1], m.S[2] = 0, []int{6} },
		"pop r0 0":        func(m *api.Machine) { m.R[0], m.S[0] = 1, nil },
		"pop r0 2":        func(m *api.Machine) { m.R[0], m.S[3] = 4, nil },
		"top r1 2":        func(m *api.Machine) { m.R[1] = 2 },
		"size r2 2":       func(m *api.Machine) { m.R[2] = 2 },
		"size r2 1":       func(m *api.Machine) {},
		"swaps 0 2":       func(m *api.Machine) { m.S[0], m.S[3] = []int{4}, []int{1} },
		"swaps 2 2":       func(m *api.Machine) {},
		"read r0":         func(m *api.Machine) { m.R[0], m.In = 5, []int{6} },
		"unread r1":       func(m *api.Machine) { m.R[1], m.In = 0, []int{6, 5, 6} },
		"write r1":        func(m *api.Machine) { m.R[1], m.Out = 0, []int{7, 6} },
		"unwrite r0":      func(m *api.Machine) { m.R[0], m.Out = 7, nil },
		"zero r0 5":       func(m *api.Machine) {},
		"frame 4 3":       func(m *api.Machine) { m.FP, m.SB = 5, 4 },
		"unframe 1 1":     func(m *api.Machine) { m.FP, m.SB = 0, 0 },
	} {
		im := load(t, s)
		m, want := start(t, im), start(t, im)
		change(want)
		want.PC = 1
		if e := cpu.Step(im, m); e != api.OK || !cpu.Equal(m, want) {
			t.Errorf("%s: %v, %d", s, *m, e)
		}
		if e := cpu.Back(im, m); e != api.OK || !cpu.Equal(m, start(t, im)) {
			t.Errorf("%s back: %v, %d", s, *m, e)
		}
	}
}

func TestStraightErrors(t *testing.T) {
	for s, want := range map[string]api.Errno{
		"calc r3 r1 r0 /": api.ErrDivide, "calc r3 r1 r0 %": api.ErrDivide, "mem r1 4": api.ErrIndex, "idx r1 r3 0 5": api.ErrIndex, "idx r1 r2 0 3": api.ErrIndex, "idx r1 r2 1 9": api.ErrIndex, "idx r2 r1 0 6": api.ErrIndex,
		"push r1 3": api.ErrIndex, "pop r0 3": api.ErrIndex, "pop r1 1": api.ErrEmpty, "pop r1 2": api.ErrClear, "pop r1 0": api.ErrClear, "top r1 1": api.ErrEmpty, "top r1 3": api.ErrIndex, "size r1 3": api.ErrIndex,
		"swaps 3 0": api.ErrIndex, "swaps 0 3": api.ErrIndex, "read r1": api.ErrClear, "unwrite r1": api.ErrClear, "zero r1 5": api.ErrFull, "zero r3 23": api.ErrJump,
		"frame 5 0": api.ErrIndex, "frame 0 4": api.ErrIndex, "unframe 2 0": api.ErrIndex, "unframe 0 2": api.ErrIndex, "halt": api.ErrEnd,
	} {
		im := load(t, s)
		m := start(t, im)
		if e := cpu.Step(im, m); e != want || !cpu.Equal(m, start(t, im)) {
			t.Errorf("%s: %v, %d", s, *m, e)
		}
	}
}

func TestFullAndEmptyComponents(t *testing.T) {
	for s, want := range map[string]api.Errno{
		"push r1 1": api.ErrFull, "push r1 0": api.OK, "swaps 0 1": api.ErrFull, "swaps 1 0": api.ErrFull, "swaps 1 2": api.OK, "swaps 2 1": api.OK, "swaps 0 0": api.OK,
		"unread r1": api.ErrFull, "write r1": api.ErrFull, "read r1": api.ErrClear,
	} {
		im := load(t, s)
		m := start(t, im)
		m.SB, m.S[0], m.S[1] = 0, make([]int, 1001), make([]int, 1000)
		m.In, m.Out = make([]int, 4096), make([]int, 4096)
		before := cpu.Clone(m)
		if e := cpu.Step(im, m); e != want || e != api.OK && !cpu.Equal(m, before) {
			t.Errorf("%s: %d", s, e)
		}
	}
	for _, s := range []string{"read r1", "unwrite r1"} {
		im := load(t, s)
		m := start(t, im)
		m.In, m.Out = nil, nil
		if e := cpu.Step(im, m); e != api.ErrTape {
			t.Errorf("%s: %d", s, e)
		}
	}
}

func TestEnds(t *testing.T) {
	im := load(t, "nop, halt, nop")
	for _, c := range []struct {
		pc, dir int
		want    api.Errno
	}{{0, 1, api.OK}, {1, 1, api.ErrEnd}, {2, 1, api.OK}, {3, 1, api.ErrEnd}, {0, -1, api.ErrEnd}, {1, -1, api.OK}, {2, -1, api.ErrEnd}, {3, -1, api.OK}} {
		m := machine(t, im)
		m.PC, m.Dir = c.pc, c.dir
		if e := cpu.Step(im, m); e != c.want || e == api.OK && m.PC != c.pc+c.dir || e != api.OK && m.PC != c.pc || m.Dir != c.dir {
			t.Error(c, *m, e)
		}
	}
}

func TestBranches(t *testing.T) {
	for _, c := range []struct {
		code        string
		r0, r1      int
		pc, dir, to int
		want        api.Errno
	}{
		{"jmp 2, nop, land 0", 0, 0, 0, 1, 3, api.OK},
		{"jmp 2, nop, land 0", 0, 0, 3, -1, 0, api.OK},
		{"jmp 2, nop, land 0", 0, 0, 1, -1, 1, api.ErrAssert},
		{"jmp 2, nop, land 0", 0, 0, 2, 1, 2, api.ErrAssert},
		{"jmpz r0 2, nop, landn r1 0", 0, 1, 0, 1, 3, api.OK},
		{"jmpz r0 2, nop, landn r1 0", 0, 0, 0, 1, 0, api.ErrAssert},
		{"jmpz r0 2, nop, landn r1 0", 1, 0, 0, 1, 1, api.OK},
		{"jmpz r0 2, nop, landn r1 0", 1, 0, 1, -1, 0, api.OK},
		{"jmpz r0 2, nop, landn r1 0", 0, 0, 1, -1, 1, api.ErrAssert},
		{"jmpz r0 2, nop, landn r1 0", 0, 0, 2, 1, 3, api.OK},
		{"jmpz r0 2, nop, landn r1 0", 0, 1, 2, 1, 2, api.ErrAssert},
		{"jmpz r0 2, nop, landn r1 0", 0, 1, 3, -1, 0, api.OK},
		{"jmpz r0 2, nop, landn r1 0", 1, 1, 3, -1, 3, api.ErrAssert},
		{"jmpz r0 2, nop, landn r1 0", 1, 0, 3, -1, 2, api.OK},
		{"landz r0 2, nop, jmpn r1 0", 0, 1, 2, 1, 1, api.OK},
		{"landz r0 2, nop, jmpn r1 0", 1, 1, 2, 1, 2, api.ErrAssert},
		{"landz r0 2, nop, jmpn r1 0", 1, 0, 2, 1, 3, api.OK},
		{"landz r0 2, nop, jmpn r1 0", 0, 1, 1, -1, 2, api.OK},
		{"landz r0 2, nop, jmpn r1 0", 0, 0, 0, 1, 0, api.ErrAssert},
	} {
		im := load(t, c.code)
		m := machine(t, im)
		m.R[0], m.R[1], m.PC, m.Dir = c.r0, c.r1, c.pc, c.dir
		before := cpu.Clone(m)
		if e := cpu.Step(im, m); e != c.want || m.PC != c.to || m.Dir != c.dir {
			t.Errorf("%v: PC %d, %d", c, m.PC, e)
		}
		if c.want == api.OK {
			if e := cpu.Back(im, m); e != api.OK || !cpu.Equal(m, before) {
				t.Errorf("%v back: %v, %d", c, *m, e)
			}
		}
	}
}

func TestCalls(t *testing.T) {
	im := load(t, "addi r1 5, call 3, halt, start 5, neg r1, end 3")
	m := machine(t, im)
	positions := []int{1, 4, 5, 2}
	for i, pc := range positions {
		if e := cpu.Step(im, m); e != api.OK || m.PC != pc || len(m.Calls) != []int{0, 1, 1, 0}[i] {
			t.Fatal(i, *m, e)
		}
	}
	if m.R[1] != -5 || cpu.Step(im, m) != api.ErrEnd {
		t.Error(*m)
	}
	for range positions {
		if e := cpu.Back(im, m); e != api.OK {
			t.Fatal(e)
		}
	}
	if !cpu.Equal(m, machine(t, im)) || cpu.Back(im, m) != api.ErrEnd {
		t.Error(*m)
	}
}

func TestUncall(t *testing.T) {
	im := load(t, "uncall 2, halt, start 5, addi r1 1, addi r1 2, end 2")
	m := machine(t, im)
	type position struct{ pc, dir int }
	want := []position{{5, -1}, {4, -1}, {3, -1}, {1, 1}}
	for i, w := range want {
		if e := cpu.Step(im, m); e != api.OK || m.PC != w.pc || m.Dir != w.dir {
			t.Fatal(i, *m, e)
		}
	}
	if m.R[1] != -3 || len(m.Calls) != 0 {
		t.Error(*m)
	}
	for range want {
		cpu.Back(im, m)
	}
	if !cpu.Equal(m, machine(t, im)) {
		t.Error(*m)
	}
	m.PC, m.Dir = 1, -1
	cpu.Step(im, m)
	if m.PC != 3 || m.Dir != 1 || !slices.Equal(m.Calls, []api.Activation{{Site: 0, Turn: true}}) {
		t.Error("an uncall that is passed backward runs the procedure forward", *m)
	}
}

func TestReturnErrors(t *testing.T) {
	im := load(t, "call 2, uncall 2, start 3, end 2, start 5, end 4, nop")
	for _, c := range []struct {
		pc, dir int
		calls   []api.Activation
		want    api.Errno
	}{
		{3, 1, nil, api.ErrJump}, {3, -1, nil, api.ErrJump}, {2, 1, nil, api.ErrJump}, {4, -1, nil, api.ErrJump},
		{2, 1, []api.Activation{{Site: 0}}, api.ErrJump}, {4, -1, []api.Activation{{Site: 0}}, api.ErrJump},
		{3, 1, []api.Activation{{Site: 0}}, api.OK}, {3, 1, []api.Activation{{Site: 0, Turn: true}}, api.ErrJump}, {3, 1, []api.Activation{{Site: 1}}, api.ErrJump},
		{3, 1, []api.Activation{{Site: 1, Turn: true}}, api.OK}, {3, 1, []api.Activation{{Site: 6}}, api.ErrJump}, {5, 1, []api.Activation{{Site: 0}}, api.ErrJump},
		{3, -1, []api.Activation{{Site: 0}}, api.OK}, {3, -1, []api.Activation{{Site: 1, Turn: true}}, api.OK}, {5, -1, []api.Activation{{Site: 0}}, api.ErrJump},
	} {
		m := machine(t, im)
		m.PC, m.Dir, m.Calls = c.pc, c.dir, c.calls
		before := cpu.Clone(m)
		e := cpu.Step(im, m)
		if e != c.want || e != api.OK && !cpu.Equal(m, before) {
			t.Errorf("%v: %v, %d", c, *m, e)
		}
		if e == api.OK {
			if e := cpu.Back(im, m); e != api.OK || !cpu.Equal(m, before) {
				t.Errorf("%v back: %v, %d", c, *m, e)
			}
		}
	}
}

func TestCallDepth(t *testing.T) {
	im := load(t, "start 2, call 0, end 0, call 0")
	m := machine(t, im)
	m.PC = 3
	for range api.MaxCalls {
		if e := cpu.Step(im, m); e != api.OK {
			t.Fatal(e)
		}
	}
	before := cpu.Clone(m)
	if e := cpu.Step(im, m); e != api.ErrDepth || !cpu.Equal(m, before) {
		t.Error(e)
	}
}

func TestTurnEqualClone(t *testing.T) {
	im := load(t, "nop")
	m := start(t, im)
	m.Calls = []api.Activation{{Site: 0}}
	cpu.Turn(m)
	if m.Dir != -1 {
		t.Error("Turn")
	}
	cpu.Turn(nil)
	for _, change := range []func(m *api.Machine){
		func(m *api.Machine) { m.PC++ }, func(m *api.Machine) { m.Dir = 1 }, func(m *api.Machine) { m.R[15]++ }, func(m *api.Machine) { m.M[4]++ }, func(m *api.Machine) { m.S[1][0]++ },
		func(m *api.Machine) { m.S = m.S[:3] }, func(m *api.Machine) { m.Calls[0].Turn = true }, func(m *api.Machine) { m.FP = 0 }, func(m *api.Machine) { m.SB = 0 }, func(m *api.Machine) { m.In[0]++ }, func(m *api.Machine) { m.Out[0]++ },
	} {
		c := cpu.Clone(m)
		if !cpu.Equal(c, m) {
			t.Fatal("Clone")
		}
		change(c)
		if cpu.Equal(c, m) || cpu.Equal(m, c) {
			t.Error("Equal, or Clone shares memory")
		}
	}
	if !cpu.Equal(nil, nil) || cpu.Equal(nil, m) || cpu.Equal(m, nil) || cpu.Clone(nil) != nil {
		t.Error("nil machines")
	}
	a, b := api.Machine{M: []int{}, S: [][]int{nil}}, api.Machine{S: [][]int{{}}, In: []int{}}
	if !cpu.Equal(&a, &b) {
		t.Error("nil lists are empty lists")
	}
}

func TestInvalidImages(t *testing.T) {
	for _, i := range []api.Instr{{Op: 200}, {Op: api.OpAdd, A: 99, B: 1}, {Op: api.OpJmp, A: 7}, {Op: api.OpJmp, A: 1}, {Op: api.OpCall, A: 1}, {Op: api.OpEnd, A: 1}, {Op: api.OpPush, A: -1}, {Op: api.OpLand, A: 1}} {
		im := api.Image{Code: []api.Instr{i, {Op: api.OpJmpZ, A: -1}}, Mem: 1, Stacks: 1}
		for pc := range 3 {
			for _, dir := range []int{1, -1} {
				m := api.Machine{PC: pc, Dir: dir, M: []int{0}, S: [][]int{{}}, Calls: []api.Activation{{Site: 0}}}
				cpu.Step(im, &m)
			}
		}
	}
}

func TestRandomStepsAreReversible(t *testing.T) {
	x := uint64(1)
	below := func(n int) int {
		x = x*6364136223846793005 + 1442695040888963407
		return int((x >> 33) % uint64(n))
	}
	im := load(t, "jmpz r0 3, xori r0 1, add r1 r0, landn r0 0, call 10, calc r0 r1 r2 &, push r0 1, swaps 1 0, mem r2 1, uncall 10, start 14, idx r1 r3 0 2, pop r2 0, swap r0 r2, end 10, landz r1 17, subi r1 1, jmpn r1 15, frame 1 1, unframe 1 1, top r3 0")
	if at, e := image.Check(im); e != api.OK {
		t.Fatal(at, e)
	}
	steps := 0
	for range 20000 {
		m := machine(t, im)
		m.PC, m.Dir = below(len(im.Code)+1), 1-2*below(2)
		for r := range 4 {
			m.R[r] = below(3) - below(2)
		}
		for i := range m.M {
			m.M[i] = below(3)
		}
		m.S[0], m.S[1] = make([]int, below(3)), make([]int, below(3))
		m.FP, m.SB = below(3), below(2)
		if below(2) == 0 {
			m.Calls = []api.Activation{{Site: 4 + 5*below(2), Turn: below(2) == 0}}
		}
		before := cpu.Clone(m)
		if cpu.Step(im, m) == api.OK {
			steps++
			if e := cpu.Back(im, m); e != api.OK || !cpu.Equal(m, before) || !cpu.Fits(im, m) {
				t.Fatalf("step and back: %v, %v, %d", *before, *m, e)
			}
		}
		m = cpu.Clone(before)
		if cpu.Back(im, m) == api.OK {
			if e := cpu.Step(im, m); e != api.OK || !cpu.Equal(m, before) {
				t.Fatalf("back and step: %v, %v, %d", *before, *m, e)
			}
		}
	}
	if steps < 5000 {
		t.Error(steps)
	}
}
