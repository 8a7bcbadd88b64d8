package linker_test

import (
	"slices"
	"strings"
	"testing"

	"backstep/api"
	"backstep/asm"
	"backstep/image"
	"backstep/internal/sample"
	"backstep/layout"
	"backstep/linker"
	"backstep/object"
	"backstep/stmtgen"
)

// obj returns an object with code that is written with commas; refs are the names of its calls.
func obj(t *testing.T, name string, cells, stacks int, code string, refs ...string) object.Object {
	t.Helper()
	l, at, e := asm.Parse(strings.ReplaceAll(code, ", ", "\n") + "\n")
	if e != api.OK {
		t.Fatal(code, at, e)
	}
	o := object.Object{Name: name, Frame: layout.Frame{Cells: cells, Stacks: stacks}, Piece: stmtgen.Piece{Code: l}}
	for i, instr := range l {
		if instr.Op == api.OpCall || instr.Op == api.OpUncall {
			o.Piece.Refs = append(o.Piece.Refs, stmtgen.Ref{At: i, Name: refs[0]})
			refs = refs[1:]
		}
	}
	return o
}

func TestLink(t *testing.T) {
	im, symbols, e := linker.Link(obj(t, "", 0, 0, "call 0", "f"), obj(t, "f", 0, 0, "nop"))
	want := obj(t, "", 0, 0, "call 2, halt, start 4, nop, end 2", "").Piece.Code
	if e != api.OK || !slices.Equal(im.Code, want) || !slices.Equal(symbols, []linker.Symbol{{Name: "f", At: 2}}) || im.Mem != 80 || im.Stacks != 1 || !image.Valid(im) {
		t.Error(im, symbols, e)
	}
	main := obj(t, "", 3, 2, "jmp 2, uncall 0, land 0", "g")
	f := obj(t, "f", 4, 0, "call 0, jmpz r1 2, landn r2 1, uncall 0", "g", "f")
	g := obj(t, "g", 1, 5, "neg r1")
	im, symbols, e = linker.Link(main, f, g)
	want = obj(t, "", 0, 0, "jmp 2, uncall 10, land 0, halt, start 9, call 10, jmpz r1 7, landn r2 6, uncall 4, end 4, start 12, neg r1, end 10", "", "", "").Piece.Code
	if e != api.OK || !slices.Equal(im.Code, want) || !slices.Equal(symbols, []linker.Symbol{{Name: "f", At: 4}, {Name: "g", At: 10}}) || im.Mem != 3+404+80 || im.Stacks != 1+2+505 || !image.Valid(im) {
		t.Error(im, symbols, e)
	}
	if !slices.Equal(image.Procs(im), []int{4, 10}) || main.Piece.Code[0].A != 2 {
		t.Error("procedures", image.Procs(im))
	}
	im, symbols, e = linker.Link(object.Object{})
	if e != api.OK || len(im.Code) != 1 || len(symbols) != 0 {
		t.Error(im, symbols, e)
	}
}

func TestLinkErrors(t *testing.T) {
	main, f, g := obj(t, "", 0, 0, "nop"), obj(t, "f", 0, 0, "nop"), obj(t, "g", 0, 0, "call 0", "h")
	jump, unfit := obj(t, "j", 0, 0, "jmp 5"), obj(t, "k", 0, 0, "nop")
	unfit.Params = []api.VarDecl{{Name: "x", Kind: api.Int}}
	size := func(name string, n int) object.Object {
		return object.Object{Name: name, Piece: stmtgen.Piece{Code: make([]api.Instr, n)}}
	}
	for i, c := range []struct {
		main  object.Object
		procs []object.Object
		want  api.Errno
	}{
		{main, []object.Object{f, jump, unfit, f}, api.ErrJump}, {main, []object.Object{unfit, jump}, api.ErrState}, {obj(t, "", 0, 0, "halt"), []object.Object{jump}, api.ErrForm},
		{f, []object.Object{f, f}, api.ErrForm}, {main, []object.Object{f, f, main}, api.ErrForm}, {main, []object.Object{f, g, f}, api.ErrTwice}, {main, []object.Object{f, g}, api.ErrName}, {obj(t, "", 0, 0, "call 0", "x"), []object.Object{f}, api.ErrName},
		{size("", api.MaxCode-1), nil, api.OK}, {size("", api.MaxCode), nil, api.ErrFull}, {size("", api.MaxCode-4), []object.Object{f}, api.OK}, {size("", api.MaxCode-3), []object.Object{f}, api.ErrFull}, {size("", api.MaxCode), []object.Object{g}, api.ErrName},
		{obj(t, "", api.MaxCells-80, 0, "nop"), nil, api.OK}, {obj(t, "", api.MaxCells-79, 0, "nop"), nil, api.ErrFull}, {obj(t, "", 0, api.MaxCells-1, "nop"), nil, api.OK}, {obj(t, "", 0, api.MaxCells, "nop"), nil, api.ErrFull},
		{main, []object.Object{f, obj(t, "p", 161, 162, "nop")}, api.OK}, {main, []object.Object{f, obj(t, "p", 162, 0, "nop")}, api.ErrFull}, {main, []object.Object{obj(t, "p", 0, 163, "nop"), f}, api.ErrFull},
	} {
		im, symbols, e := linker.Link(c.main, c.procs...)
		if e != c.want || e != api.OK && (len(im.Code) != 0 || im.Mem != 0 || im.Stacks != 0 || len(symbols) != 0) {
			t.Errorf("case %d: %d", i, e)
		}
		if e == api.OK && !image.Valid(im) {
			t.Errorf("case %d: invalid image", i)
		}
	}
}

func TestUndefined(t *testing.T) {
	main := obj(t, "", 0, 0, "call 0, call 0, call 0", "z", "f", "b")
	f := obj(t, "f", 0, 0, "uncall 0, call 0", "a", "z")
	if got := linker.Undefined(main, f, obj(t, "b", 0, 0, "nop")); !slices.Equal(got, []string{"a", "z"}) {
		t.Error(got)
	}
	if got := linker.Undefined(main); !slices.Equal(got, []string{"b", "f", "z"}) {
		t.Error(got)
	}
	if got := linker.Undefined(obj(t, "", 0, 0, "nop"), obj(t, "f", 0, 0, "call 0", "f")); len(got) != 0 {
		t.Error(got)
	}
}

func TestReachable(t *testing.T) {
	names := func(l []object.Object) string {
		var s []string
		for _, o := range l {
			s = append(s, o.Name)
		}
		return strings.Join(s, " ")
	}
	main := obj(t, "", 0, 0, "call 0, call 0", "c", "none")
	a, b, c, d := obj(t, "a", 0, 0, "nop"), obj(t, "b", 0, 0, "call 0", "d"), obj(t, "c", 1, 0, "uncall 0, call 0", "a", "c"), obj(t, "d", 0, 0, "nop")
	other := obj(t, "c", 2, 0, "call 0", "d")
	if got := linker.Reachable(main, d, c, b, other, a); names(got) != "c a" || got[0].Frame.Cells != 1 {
		t.Error(names(got))
	}
	if got := linker.Reachable(main, d, other, c, a); names(got) != "d c" || got[1].Frame.Cells != 2 {
		t.Error(names(got))
	}
	if got := linker.Reachable(a, b, c, d); len(got) != 0 {
		t.Error(names(got))
	}
	got := linker.Reachable(main, c)
	got[0].Piece.Code[0].Op, got[0].Piece.Refs[0].Name = api.OpNop, "changed"
	if c.Piece.Code[0].Op != api.OpUncall || c.Piece.Refs[0].Name != "a" {
		t.Error("the result shares memory with the argument")
	}
}

func TestDecodedObjects(t *testing.T) {
	for seed := range 100 {
		p := sample.Program(seed)
		main, _ := object.Main(p)
		all := []object.Object{main}
		for i := range p.Procs {
			o, _ := object.Proc(p, i)
			all = append(all, o)
		}
		im, _, e := linker.Link(all[0], all[1:]...)
		if e != api.OK || !image.Valid(im) {
			t.Fatal(seed, e)
		}
		for i, o := range all {
			b, _ := object.Encode(o)
			all[i], _ = object.Decode(b)
		}
		again, _, e := linker.Link(all[0], all[1:]...)
		if e != api.OK || !slices.Equal(again.Code, im.Code) || again.Mem != im.Mem || again.Stacks != im.Stacks {
			t.Fatal(seed, e)
		}
	}
}
