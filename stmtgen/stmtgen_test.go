package stmtgen_test

import (
	"slices"
	"strings"
	"testing"

	"backstep/api"
	"backstep/asm"
	"backstep/exprgen"
	"backstep/internal/sample"
	"backstep/inverter"
	"backstep/layout"
	"backstep/parser"
	"backstep/stmtgen"
)

var frame = layout.Frame{
	Slots: []layout.Slot{
		{Name: "x", Kind: api.Int, At: 0}, {Name: "y", Kind: api.Int, At: 1}, {Name: "a", Kind: api.Array, Len: 3, At: 2}, {Name: "b", Kind: api.Array, Len: 2, At: 5},
		{Name: "s", Kind: api.Stack, At: 1}, {Name: "t", Kind: api.Stack, At: 2}, {Name: "k", Kind: api.Int, At: 7}, {Name: "u", Kind: api.Stack, At: 3},
	},
	Cells: 8, Stacks: 3,
}

var procs = []api.Proc{
	{Name: "f", Params: []api.VarDecl{{Name: "p", Kind: api.Int}, {Name: "q", Kind: api.Array, Len: 2}, {Name: "r", Kind: api.Stack}, {Name: "z", Kind: api.Int}}, Body: api.Node{Kind: api.Block}},
	{Name: "g", Body: api.Node{Kind: api.Block}},
	{Name: "g", Params: []api.VarDecl{{Name: "p", Kind: api.Int}}, Body: api.Node{Kind: api.Block}},
}

func block(t *testing.T, s string) api.Node {
	t.Helper()
	n, pos, e := parser.Block(s)
	if e != api.OK {
		t.Fatalf("%q: %d, %d", s, pos, e)
	}
	return n
}

// code parses instructions that are separated by commas.
func code(t *testing.T, s string) []api.Instr {
	t.Helper()
	l, at, e := asm.Parse(strings.ReplaceAll(s, ", ", "\n") + "\n")
	if e != api.OK {
		t.Fatal(s, at, e)
	}
	return l
}

// with returns exprgen's code around instructions.
func with(t *testing.T, expr string, use []api.Instr) []api.Instr {
	t.Helper()
	n, _, _ := parser.Expr(expr)
	l, e := exprgen.With(n, frame, use)
	if e != api.OK {
		t.Fatal(expr, e)
	}
	return l
}

func TestSimpleStatements(t *testing.T) {
	c := func(s string) []api.Instr { return code(t, s) }
	w := func(expr string, use []api.Instr) []api.Instr { return with(t, expr, use) }
	for s, want := range map[string][]api.Instr{
		"":                                   {},
		"x += 1;":                            w("1", c("mem r5 0, add r5 r4, mem r5 0")),
		"y -= x;":                            w("x", c("mem r5 1, sub r5 r4, mem r5 1")),
		"y ^= x + 2;":                        w("x + 2", c("mem r5 1, xor r5 r4, mem r5 1")),
		"a[x] -= y;":                         w("x", slices.Concat(c("swap r4 r5"), w("y", c("idx r6 r5 2 3, sub r6 r4, idx r6 r5 2 3")), c("swap r4 r5"))),
		"x <=> x;":                           {},
		"x <=> y;":                           c("mem r5 0, mem r5 1, mem r5 0"),
		"x <=> b[y];":                        w("y", c("mem r5 0, idx r5 r4 5 2, mem r5 0")),
		"b[y] <=> x;":                        w("y", c("mem r5 0, idx r5 r4 5 2, mem r5 0")),
		"a[x] <=> b[y];":                     w("x", slices.Concat(c("swap r4 r5"), w("y", c("idx r6 r5 2 3, idx r6 r4 5 2, idx r6 r5 2 3")), c("swap r4 r5"))),
		"push x, t;":                         c("mem r5 0, push r5 2, mem r5 0"),
		"pop a[1], s;":                       w("1", c("idx r5 r4 2 3, pop r5 1, idx r5 r4 2 3")),
		"read x;":                            c("mem r5 0, read r5, mem r5 0"),
		"unread a[y];":                       w("y", c("idx r5 r4 2 3, unread r5, idx r5 r4 2 3")),
		"write y;":                           c("mem r5 1, write r5, mem r5 1"),
		"unwrite y;":                         c("mem r5 1, unwrite r5, mem r5 1"),
		"local k = x { y += 1; } delocal 2;": slices.Concat(w("x", c("mem r5 7, zero r5 16, xor r5 r4, mem r5 7")), w("1", c("mem r5 1, add r5 r4, mem r5 1")), w("2", c("mem r5 7, xor r5 r4, zero r5 16, mem r5 7"))),
		"local stack u { push x, u; };":      c("size r5 3, zero r5 16, size r5 3, mem r5 0, push r5 3, mem r5 0, size r5 3, zero r5 16, size r5 3"),
		"read x; write y;":                   c("mem r5 0, read r5, mem r5 0, mem r5 1, write r5, mem r5 1"),
	} {
		p, e := stmtgen.Block(block(t, s), frame, procs)
		if e != api.OK || !slices.Equal(p.Code, want) || len(p.Refs) != 0 {
			t.Errorf("%q: %v, %d", s, p, e)
		}
	}
}

// relocate adds a base to the targets of jumps and landings that are written with small numbers.
func relocate(base int, l []api.Instr) []api.Instr {
	l = slices.Clone(l)
	for i := range l {
		switch l[i].Op {
		case api.OpJmp, api.OpLand:
			l[i].A += base
		case api.OpJmpZ, api.OpJmpN, api.OpLandZ, api.OpLandN:
			l[i].B += base
		}
	}
	return l
}

func TestSwapWithinAnArray(t *testing.T) {
	p, e := stmtgen.Block(block(t, "a[x] <=> a[y];"), frame, procs)
	inner := code(t, "idx r6 r5 2 3, idx r6 r5 2 3, calc r7 r5 r4 ==, jmpn r7 7, idx r6 r5 2 3, idx r6 r4 2 3, idx r6 r5 2 3, landn r7 3, calc r7 r5 r4 ==, idx r6 r5 2 3, idx r6 r5 2 3")
	x, _ := exprgen.Compute(api.Node{Kind: api.Var, Name: "x"}, frame)
	y, _ := exprgen.Compute(api.Node{Kind: api.Var, Name: "y"}, frame)
	swap := code(t, "swap r4 r5")
	inner = relocate(len(x)+2+len(y)+1, inner)
	want := with(t, "x", slices.Concat(swap, with(t, "y", inner), swap))
	if e != api.OK || !slices.Equal(p.Code, want) {
		t.Error(p.Code, e)
	}
	if at, e := stmtgen.Check(p); e != api.OK {
		t.Error(at, e)
	}
}

func TestIf(t *testing.T) {
	p, e := stmtgen.Block(block(t, "read x; if x { read y; } else { write x; write y; } fi y;"), frame, procs)
	test := code(t, "calc r0 r4 r5 !=")
	first := slices.Concat(code(t, "mem r5 0, read r5, mem r5 0"), code(t, "zero r0 15"), with(t, "x", test))
	then := code(t, "mem r5 1, read r5, mem r5 1")
	other := code(t, "mem r5 0, write r5, mem r5 0, mem r5 1, write r5, mem r5 1")
	jump := len(first)
	elseAt := jump + 1 + 1 + len(then) + 1 + 1
	endAt := elseAt + 1 + len(other)
	want := slices.Concat(first, []api.Instr{{Op: api.OpJmpZ, B: elseAt}}, code(t, "xori r0 1"), then, code(t, "xori r0 1"), []api.Instr{{Op: api.OpJmp, A: endAt}, {Op: api.OpLand, A: jump}}, other,
		[]api.Instr{{Op: api.OpLandN, B: elseAt - 1}}, with(t, "y", test), code(t, "zero r0 15"))
	if e != api.OK || !slices.Equal(p.Code, want) {
		t.Errorf("%v\n%v, %d", p.Code, want, e)
	}
}

func TestFrom(t *testing.T) {
	p, e := stmtgen.Block(block(t, "from x { read y; } loop { write x; } until y;"), frame, procs)
	test := code(t, "calc r0 r4 r5 !=")
	body := slices.Concat(with(t, "x", test), code(t, "zero r0 15, mem r5 1, read r5, mem r5 1, zero r0 15"), with(t, "y", test))
	exit := 2 + len(body)
	loop := exit + 1 + 3
	want := slices.Concat(code(t, "xori r0 1"), []api.Instr{{Op: api.OpLandZ, B: loop}}, body, []api.Instr{{Op: api.OpJmpN, B: loop + 1}}, code(t, "mem r5 0, write r5, mem r5 0"),
		[]api.Instr{{Op: api.OpJmp, A: 1}, {Op: api.OpLand, A: exit}}, code(t, "xori r0 1"))
	if e != api.OK || !slices.Equal(p.Code, want) {
		t.Errorf("%v\n%v, %d", p.Code, want, e)
	}
}

func TestCalls(t *testing.T) {
	p, e := stmtgen.Block(block(t, "call f(y, b, t, x); uncall g();"), frame, procs)
	enter := "mem r5 1, mem r5 8, mem r5 1, mem r5 5, mem r5 9, mem r5 5, mem r5 6, mem r5 10, mem r5 6, swaps 2 4, mem r5 0, mem r5 11, mem r5 0, "
	leave := "mem r5 0, mem r5 11, mem r5 0, swaps 2 4, mem r5 6, mem r5 10, mem r5 6, mem r5 5, mem r5 9, mem r5 5, mem r5 1, mem r5 8, mem r5 1, "
	want := code(t, enter+"frame 8 3, call 0, unframe 8 3, "+leave+"frame 8 3, uncall 0, unframe 8 3")
	refs := []stmtgen.Ref{{At: 14, Name: "f"}, {At: 30, Name: "g"}}
	if e != api.OK || !slices.Equal(p.Code, want) || !slices.Equal(p.Refs, refs) {
		t.Error(p, e)
	}
	p, _ = stmtgen.Block(block(t, "if x { call g(); } else { uncall g(); } fi 1;"), frame, procs)
	if len(p.Refs) != 2 || p.Code[p.Refs[0].At].Op != api.OpCall || p.Code[p.Refs[1].At].Op != api.OpUncall {
		t.Error(p.Refs)
	}
}

func TestBlockErrors(t *testing.T) {
	for s, want := range map[string]api.Errno{
		"x := 1;": api.ErrLossy, "z := z;": api.ErrLossy, "z += 1; x := 1;": api.ErrName, "x := 1; z += 1;": api.ErrLossy, "if x { x := 1; } else { } fi z;": api.ErrName, "if x { x := 1; z += 1; } else { } fi x;": api.ErrLossy,
		"x += z;": api.ErrName, "a += 1;": api.ErrName, "x[0] += 1;": api.ErrName, "x += s;": api.ErrName, "x += top(a) ;": api.ErrName, "x += size(z);": api.ErrName, "push x, y;": api.ErrName, "pop z, s;": api.ErrName,
		"a[z] <=> x;": api.ErrName, "x <=> s;": api.ErrName, "read z;": api.ErrName, "if 1 { } else { z += 1; } fi 1;": api.ErrName, "from z { } loop { } until 1;": api.ErrName, "from x { } loop { } until z;": api.ErrName,
		"local z = 1 { } delocal 1;": api.ErrName, "local u = 1 { } delocal 1;": api.ErrName, "local k = z { } delocal 1;": api.ErrName, "local k = 1 { } delocal z;": api.ErrName, "local stack k { };": api.ErrName, "local stack z { x := 1; };": api.ErrName,
		"call h();": api.ErrName, "call f(z);": api.ErrName, "call f(x);": api.ErrType, "call f(x, b, t, y, z);": api.ErrType, "call f(x, y, t, y);": api.ErrName, "call f(x, a, t, y);": api.ErrType, "call f(x, a, z, y);": api.ErrName, "call g(x);": api.ErrType,
		"call f(x, a);": api.ErrType, "call f(s, b, t, y);": api.ErrName, "uncall f(x, b, x, y);": api.ErrName,
	} {
		p, e := stmtgen.Block(block(t, s), frame, procs)
		if e != want || len(p.Code) != 0 || len(p.Refs) != 0 {
			t.Errorf("%q: %v, %d", s, p, e)
		}
	}
	for _, n := range []api.Node{{}, {Kind: api.Read}, block(t, "x += 1;").Kids[0], {Kind: api.Block, Kids: []api.Node{{Kind: api.Num}}}} {
		if _, e := stmtgen.Block(n, frame, procs); e != api.ErrForm {
			t.Error(n, e)
		}
	}
	wide := frame
	wide.Cells = api.MaxCells - 1
	for s, want := range map[string]api.Errno{"x += 1;": api.OK, "x += -1;": api.ErrFull, "a[-1] <=> x;": api.ErrFull, "x += -1; y := 1;": api.ErrLossy, "local k = 1 { if 1 { } else { } fi x + 1; } delocal 1;": api.ErrFull} {
		if p, e := stmtgen.Block(block(t, s), wide, procs); e != want || e != api.OK && len(p.Code) != 0 {
			t.Errorf("%q: %d", s, e)
		}
	}
	exact := api.Node{Kind: api.Block, Kids: append(slices.Repeat(block(t, "read x;").Kids, 21841), block(t, "x += y;").Kids...)}
	if p, e := stmtgen.Block(exact, frame, procs); e != api.OK || len(p.Code) != api.MaxCode {
		t.Error(len(p.Code), e)
	}
	long := api.Node{Kind: api.Block, Kids: slices.Repeat(block(t, "read x;").Kids, api.MaxCode/3)}
	if p, e := stmtgen.Block(long, frame, procs); e != api.OK || len(p.Code) != api.MaxCode-1 {
		t.Error(len(p.Code), e)
	}
	long.Kids = append(long.Kids, long.Kids[0])
	if p, e := stmtgen.Block(long, frame, procs); e != api.ErrFull || len(p.Code) != 0 {
		t.Error(len(p.Code), e)
	}
}

func TestConcat(t *testing.T) {
	a := stmtgen.Piece{Code: code(t, "jmp 2, call 0, land 0"), Refs: []stmtgen.Ref{{At: 1, Name: "f"}}}
	b := stmtgen.Piece{Code: code(t, "uncall 0, landz r0 2, jmpn r1 1, neg r1"), Refs: []stmtgen.Ref{{At: 0, Name: "any name"}}}
	p, e := stmtgen.Concat(a, b, stmtgen.Piece{}, a)
	want := stmtgen.Piece{Code: code(t, "jmp 2, call 0, land 0, uncall 0, landz r0 5, jmpn r1 4, neg r1, jmp 9, call 0, land 7"), Refs: []stmtgen.Ref{{At: 1, Name: "f"}, {At: 3, Name: "any name"}, {At: 8, Name: "f"}}}
	if e != api.OK || !slices.Equal(p.Code, want.Code) || !slices.Equal(p.Refs, want.Refs) {
		t.Error(p, e)
	}
	if p, e := stmtgen.Concat(); e != api.OK || len(p.Code) != 0 {
		t.Error(p, e)
	}
	half := stmtgen.Piece{Code: make([]api.Instr, api.MaxCode/2)}
	if p, e := stmtgen.Concat(half, half); e != api.OK || len(p.Code) != api.MaxCode {
		t.Error(e)
	}
	bad := stmtgen.Piece{Code: code(t, "halt")}
	jump := stmtgen.Piece{Code: code(t, "jmp 4")}
	for i, c := range []struct {
		l    []stmtgen.Piece
		want api.Errno
	}{{[]stmtgen.Piece{half, half, b}, api.ErrFull}, {[]stmtgen.Piece{half, half, half, bad}, api.ErrForm}, {[]stmtgen.Piece{a, jump, bad}, api.ErrJump}} {
		if p, e := stmtgen.Concat(c.l...); e != c.want || len(p.Code) != 0 || len(p.Refs) != 0 {
			t.Error(i, e)
		}
	}
}

func TestInvert(t *testing.T) {
	p := stmtgen.Piece{Code: code(t, "uncall 0, landz r0 3, push r1 2, jmpn r1 1, neg r1, call 0"), Refs: []stmtgen.Ref{{At: 0, Name: "f"}, {At: 5, Name: "g"}}}
	want := stmtgen.Piece{Code: code(t, "call 0, neg r1, landn r1 4, pop r1 2, jmpz r0 2, uncall 0"), Refs: []stmtgen.Ref{{At: 0, Name: "g"}, {At: 5, Name: "f"}}}
	got, e := stmtgen.Invert(p)
	if e != api.OK || !slices.Equal(got.Code, want.Code) || !slices.Equal(got.Refs, want.Refs) {
		t.Error(got, e)
	}
	if again, _ := stmtgen.Invert(got); !slices.Equal(again.Code, p.Code) || !slices.Equal(again.Refs, p.Refs) {
		t.Error(again)
	}
	if got, e := stmtgen.Invert(stmtgen.Piece{Code: make([]api.Instr, api.MaxCode)}); e != api.OK || len(got.Code) != api.MaxCode {
		t.Error("MaxCode instructions", e)
	}
	for _, c := range []struct {
		p    stmtgen.Piece
		want api.Errno
	}{{stmtgen.Piece{Code: code(t, "end 0")}, api.ErrForm}, {stmtgen.Piece{Code: make([]api.Instr, api.MaxCode+1)}, api.ErrFull}, {stmtgen.Piece{Refs: p.Refs}, api.ErrName}} {
		if got, e := stmtgen.Invert(c.p); e != c.want || len(got.Code) != 0 {
			t.Error(got, e)
		}
	}
}

func TestCheck(t *testing.T) {
	refs := func(l ...int) []stmtgen.Ref {
		var r []stmtgen.Ref
		for _, at := range l {
			r = append(r, stmtgen.Ref{At: at})
		}
		return r
	}
	for i, c := range []struct {
		code string
		refs []stmtgen.Ref
		at   int
		e    api.Errno
	}{
		{"nop", nil, -1, api.OK}, {"nop, halt", nil, 1, api.ErrForm}, {"start 1, end 0", nil, 0, api.ErrForm}, {"end 0", nil, 0, api.ErrForm},
		{"jmp 1, land 0", nil, -1, api.OK}, {"jmpz r1 1, landn r2 0", nil, -1, api.OK}, {"nop, jmp 0", nil, 1, api.ErrJump}, {"jmp 5", nil, 0, api.ErrJump}, {"jmp 0", nil, 0, api.ErrJump}, {"jmp 1, jmp 0", nil, 0, api.ErrJump}, {"land 1, land 0", nil, 0, api.ErrJump},
		{"jmp 2, jmp 2, land 0", nil, 1, api.ErrJump}, {"nop, land 0", nil, 1, api.ErrJump}, {"jmp 1, land 0, land 0", nil, 2, api.ErrJump},
		{"call 0", refs(0), -1, api.OK}, {"call 0, uncall 0", refs(0, 1), -1, api.OK}, {"call 1", refs(0), 0, api.ErrName}, {"call 0", nil, 0, api.ErrName}, {"nop, call 0", refs(0), 0, api.ErrName}, {"nop, call 0", refs(1), -1, api.OK},
		{"call 0, call 0", refs(0), 1, api.ErrName}, {"call 0, call 0", refs(1, 0), 0, api.ErrName}, {"call 0, nop", refs(0, 1), 1, api.ErrName}, {"call 0", refs(0, 0), 1, api.ErrName}, {"call 0", refs(0, 1), 1, api.ErrName}, {"call 0", refs(0, 7), 1, api.ErrName},
		{"nop", refs(-1), 1, api.ErrName}, {"nop, halt", refs(0), 0, api.ErrName}, {"halt", refs(0), 0, api.ErrForm}, {"jmp 3", refs(0), 0, api.ErrJump},
	} {
		p := stmtgen.Piece{Code: code(t, c.code), Refs: c.refs}
		if at, e := stmtgen.Check(p); at != c.at || e != c.e {
			t.Errorf("case %d, %s %v: %d, %d", i, c.code, c.refs, at, e)
		}
	}
	if at, e := stmtgen.Check(stmtgen.Piece{}); at != -1 || e != api.OK {
		t.Error("the empty piece", at, e)
	}
	invalid := stmtgen.Piece{Code: []api.Instr{{Op: api.OpJmp, A: 1}, {Op: api.OpLand, A: 0, B: 5}}}
	if at, e := stmtgen.Check(invalid); at != 1 || e != api.ErrForm {
		t.Error("a jump to an invalid landing is correct itself", at, e)
	}
}

func TestInverseStatements(t *testing.T) {
	for seed := range 300 {
		p := sample.Program(seed)
		f, _ := layout.Of(p.Vars, p.Main)
		whole, e := stmtgen.Block(p.Main, f, p.Procs)
		if e != api.OK {
			t.Fatal(seed, e)
		}
		if at, e := stmtgen.Check(whole); e != api.OK {
			t.Fatal(seed, at, e)
		}
		twice, _ := stmtgen.Invert(whole)
		twice, _ = stmtgen.Invert(twice)
		if !slices.Equal(twice.Code, whole.Code) || !slices.Equal(twice.Refs, whole.Refs) {
			t.Fatal(seed, "the inverse of the inverse")
		}
		for _, s := range p.Main.Kids {
			if s.Kind >= api.Call && s.Kind <= api.LocalStack {
				continue
			}
			inverse, _ := inverter.Stmt(s)
			a, _ := stmtgen.Block(api.Node{Kind: api.Block, Kids: []api.Node{s}}, f, p.Procs)
			b, _ := stmtgen.Block(api.Node{Kind: api.Block, Kids: []api.Node{inverse}}, f, p.Procs)
			a, _ = stmtgen.Invert(a)
			if !slices.Equal(a.Code, b.Code) {
				t.Fatal(seed, s)
			}
		}
	}
}
