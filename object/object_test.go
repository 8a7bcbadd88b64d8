package object_test

import (
	"bytes"
	"slices"
	"strings"
	"testing"

	"backstep/api"
	"backstep/internal/sample"
	"backstep/layout"
	"backstep/object"
	"backstep/parser"
	"backstep/stmtgen"
)

func parse(t *testing.T, s string) api.Program {
	t.Helper()
	p, pos, e := parser.Program(s)
	if e != api.OK {
		t.Fatalf("%q: %d, %d", s, pos, e)
	}
	return p
}

func same(a, b object.Object) bool {
	return a.Name == b.Name && slices.Equal(a.Params, b.Params) && a.Frame.Cells == b.Frame.Cells && a.Frame.Stacks == b.Frame.Stacks &&
		slices.Equal(a.Frame.Slots, b.Frame.Slots) && slices.Equal(a.Piece.Code, b.Piece.Code) && slices.Equal(a.Piece.Refs, b.Piece.Refs)
}

const text = "int x array a[2] proc f(int x) { x += 1; } proc g(stack s, array b[2]) { local k = 2 { push k, s; k += 2; } delocal 2; call g(s, b); } main { call f(x); local y = 1 { } delocal 1; }"

func TestProcAndMain(t *testing.T) {
	p := parse(t, text)
	f, e := object.Proc(p, 0)
	if e != api.OK || f.Name != "f" || !slices.Equal(f.Params, p.Procs[0].Params) || f.Frame.Cells != 1 || f.Frame.Stacks != 0 || len(f.Piece.Refs) != 0 {
		t.Error(f, e)
	}
	code, _ := stmtgen.Block(p.Procs[0].Body, f.Frame, p.Procs)
	if !slices.Equal(f.Piece.Code, code.Code) {
		t.Error(f.Piece)
	}
	g, e := object.Proc(p, 1)
	if e != api.OK || len(g.Params) != 2 || g.Frame.Cells != 3 || g.Frame.Stacks != 1 || len(g.Piece.Refs) != 1 || g.Piece.Refs[0].Name != "g" {
		t.Error(g, e)
	}
	m, e := object.Main(p)
	if e != api.OK || m.Name != "" || len(m.Params) != 0 || m.Frame.Cells != 4 || len(m.Frame.Slots) != 3 || len(m.Piece.Refs) != 1 {
		t.Error(m, e)
	}
	f.Params[0].Name = "changed"
	if p.Procs[0].Params[0].Name != "x" {
		t.Error("the object shares memory with the program")
	}
}

func TestCompileErrors(t *testing.T) {
	for s, want := range map[string]api.Errno{
		"int x main { y := 1; }":                           api.ErrForm,
		"int x int x main { }":                             api.ErrForm,
		"int x main { x += x; x := 1; }":                   api.ErrAlias,
		"int x proc f() { } main { x := 1; }":              api.ErrLossy,
		"int x main { if x { } else { } fi 1; }":           api.ErrConst,
		"int x proc f(int y) { y := 1; } main { x += x; }": api.ErrLossy,
	} {
		p := parse(t, s)
		if o, e := object.Main(p); e != want || !same(o, object.Object{}) {
			t.Errorf("%q: %d", s, e)
		}
		if o, e := object.Proc(p, 99); e != want || !same(o, object.Object{}) {
			t.Errorf("%q: %d", s, e)
		}
	}
	p := parse(t, text)
	for _, i := range []int{-1, 2} {
		if o, e := object.Proc(p, i); e != api.ErrRange || !same(o, object.Object{}) {
			t.Error(i, e)
		}
	}
	if _, e := object.Main(api.Program{}); e != api.ErrForm {
		t.Error(e)
	}
	var arrays, params, args []string
	for _, c := range "abcdefhi" {
		arrays = append(arrays, "array "+string(c)+"[16]")
		params = append(params, "array p"+string(c)+"[16]")
		args = append(args, string(c))
	}
	calls := strings.Repeat("call g("+strings.Join(args, ", ")+"); ", 86)
	long := strings.Join(arrays, " ") + " proc g(" + strings.Join(params, ", ") + ") { } proc r(" + strings.Join(arrays, ", ") + ") { " + calls + "} main { " + calls + "}"
	if o, e := object.Main(parse(t, long)); e != api.ErrFull || !same(o, object.Object{}) {
		t.Error("too much code", e)
	}
	if o, e := object.Proc(parse(t, long), 1); e != api.ErrFull || !same(o, object.Object{}) {
		t.Error("too much code", e)
	}
	if o, e := object.Proc(parse(t, long), 0); e != api.OK || len(o.Params) != 8 || object.Check(o) != api.OK {
		t.Error("eight parameters", e)
	}
}

func sampleObject() object.Object {
	return object.Object{
		Name:   "f",
		Params: []api.VarDecl{{Name: "x", Kind: api.Int}, {Name: "a", Kind: api.Array, Len: 2}, {Name: "s", Kind: api.Stack}},
		Frame: layout.Frame{Slots: []layout.Slot{
			{Name: "x", Kind: api.Int, At: 300}, {Name: "a", Kind: api.Array, Len: 2}, {Name: "s", Kind: api.Stack, At: 1}, {Name: "Any", Kind: api.Int, At: 2},
		}, Cells: 400, Stacks: 3},
		Piece: stmtgen.Piece{Code: []api.Instr{{Op: api.OpNeg, A: 7}, {Op: api.OpCall}}, Refs: []stmtgen.Ref{{At: 1, Name: "G h"}}},
	}
}

func TestCheck(t *testing.T) {
	long := strings.Repeat("n", 256)
	for title, c := range map[string]struct {
		change func(o *object.Object)
		want   api.Errno
	}{
		"unchanged":           {func(o *object.Object) {}, api.OK},
		"main":                {func(o *object.Object) { o.Name, o.Params = "", nil }, api.OK},
		"main with parameter": {func(o *object.Object) { o.Name = "" }, api.ErrForm},
		"bad name":            {func(o *object.Object) { o.Name = "int" }, api.ErrForm},
		"bad parameter":       {func(o *object.Object) { o.Params[0].Name = "X" }, api.ErrForm},
		"bad kind":            {func(o *object.Object) { o.Params[0].Kind = 7 }, api.ErrForm},
		"same parameters":     {func(o *object.Object) { o.Params[2] = o.Params[0] }, api.ErrForm},
		"bad length":          {func(o *object.Object) { o.Params[1].Len = 17; o.Frame.Slots[1].Len = 17 }, api.ErrForm},
		"nine parameters":     {func(o *object.Object) { o.Params = nine() }, api.ErrForm},
		"overlap":             {func(o *object.Object) { o.Frame.Slots[3].At = 1 }, api.ErrForm},
		"many cells":          {func(o *object.Object) { o.Frame.Cells = api.MaxCells + 1 }, api.ErrForm},
		"all cells":           {func(o *object.Object) { o.Frame.Cells, o.Frame.Stacks = api.MaxCells, api.MaxCells }, api.OK},
		"many stacks":         {func(o *object.Object) { o.Frame.Stacks = api.MaxCells + 1 }, api.ErrForm},
		"long slot name":      {func(o *object.Object) { o.Frame.Slots[3].Name = long }, api.ErrForm},
		"slot name":           {func(o *object.Object) { o.Frame.Slots[3].Name = long[1:] }, api.OK},
		"integer length":      {func(o *object.Object) { o.Frame.Slots[3].Len = 1 }, api.ErrForm},
		"array length":        {func(o *object.Object) { o.Frame.Slots[3] = layout.Slot{Name: "b", Kind: api.Array, Len: 17, At: 2} }, api.ErrForm},
		"array name":          {func(o *object.Object) { o.Frame.Slots[3] = layout.Slot{Name: long[1:], Kind: api.Array, Len: 1, At: 2} }, api.OK},
		"long array name":     {func(o *object.Object) { o.Frame.Slots[3] = layout.Slot{Name: long, Kind: api.Array, Len: 1, At: 2} }, api.ErrForm},
		"array of 16":         {func(o *object.Object) { o.Frame.Slots[3] = layout.Slot{Name: "b", Kind: api.Array, Len: 16, At: 2} }, api.OK},
		"missing slot":        {func(o *object.Object) { o.Frame.Slots = o.Frame.Slots[:2] }, api.ErrState},
		"other slot":          {func(o *object.Object) { o.Frame.Slots[0].Name = "y" }, api.ErrState},
		"other slot length":   {func(o *object.Object) { o.Params[1].Len = 3 }, api.ErrState},
		"other slot kind":     {func(o *object.Object) { o.Frame.Slots[2], o.Frame.Slots[3] = o.Frame.Slots[3], o.Frame.Slots[2] }, api.ErrState},
		"bad code":            {func(o *object.Object) { o.Piece.Code[0].Op = api.OpHalt }, api.ErrForm},
		"bad jump":            {func(o *object.Object) { o.Piece.Code[0] = api.Instr{Op: api.OpJmp, A: 1} }, api.ErrJump},
		"bad reference":       {func(o *object.Object) { o.Piece.Refs[0].At = 0 }, api.ErrName},
		"state before code":   {func(o *object.Object) { o.Frame.Slots[0].Name = "y"; o.Piece.Code[0].Op = api.OpHalt }, api.ErrState},
	} {
		o := sampleObject()
		c.change(&o)
		if e := object.Check(o); e != c.want {
			t.Errorf("%s: %d", title, e)
		}
		b, e := object.Encode(o)
		if e != c.want || (len(b) == 0) != (e != api.OK) {
			t.Errorf("%s: Encode %d", title, e)
		}
		if e != api.OK {
			continue
		}
		if back, e := object.Decode(b); e != api.OK || !same(back, o) {
			t.Errorf("%s: Decode %v, %d", title, back, e)
		}
	}
	if object.Check(object.Object{}) != api.OK {
		t.Error("the empty object")
	}
	empty := object.Object{Frame: layout.Frame{Cells: -1}}
	if object.Check(empty) != api.ErrForm || object.Check(object.Object{Frame: layout.Frame{Stacks: -1}}) != api.ErrForm {
		t.Error("negative sizes")
	}
}

func nine() []api.VarDecl {
	var l []api.VarDecl
	for i := range 9 {
		l = append(l, api.VarDecl{Name: string(rune('a' + i)), Kind: api.Int})
	}
	return l
}

func TestEncode(t *testing.T) {
	b, e := object.Encode(sampleObject())
	want := []byte{
		1, 'f', 3, 1, 'x', 1, 0, 1, 'a', 2, 2, 1, 's', 3, 0,
		0, 0, 1, 144, 0, 0, 0, 3, 0, 4,
		1, 'x', 1, 0, 0, 0, 1, 44, 1, 'a', 2, 2, 0, 0, 0, 0, 1, 's', 3, 0, 0, 0, 0, 1, 3, 'A', 'n', 'y', 1, 0, 0, 0, 0, 2,
		0, 0, 0, 11, 0, 0, 0, 2, 8, 7, api.OpCall, 0, 0, 0, 0,
		0, 0, 0, 1, 0, 0, 0, 1, 3, 'G', ' ', 'h',
	}
	if e != api.OK || !bytes.Equal(b, want) {
		t.Error(b, e)
	}
	for n := range b {
		if o, e := object.Decode(b[:n]); e != api.ErrEnd || !same(o, object.Object{}) {
			t.Error("beginning", n, e)
		}
	}
	if o, e := object.Decode(append(slices.Clone(b), 0)); e != api.ErrForm || !same(o, object.Object{}) {
		t.Error("bytes remain", e)
	}
	code := slices.Index(b, 11)
	for i, c := range []struct {
		change func(b []byte)
		want   api.Errno
	}{
		{func(b []byte) { b[code+5] = 200 }, api.ErrForm}, {func(b []byte) { b[code+4] = 9 }, api.ErrForm}, {func(b []byte) { b[code-3] = 255 }, api.ErrEnd},
		{func(b []byte) { b[1] = 'F' }, api.ErrForm}, {func(b []byte) { b[4] = 'y' }, api.ErrState}, {func(b []byte) { b[len(b)-5] = 0 }, api.ErrName},
	} {
		changed := slices.Clone(b)
		c.change(changed)
		if o, e := object.Decode(changed); e != c.want || !same(o, object.Object{}) {
			t.Errorf("case %d: %d", i, e)
		}
	}
	o := sampleObject()
	o.Piece.Refs[0].Name = strings.Repeat("n", 255)
	b, e = object.Encode(o)
	if back, e2 := object.Decode(b); e != api.OK || e2 != api.OK || !same(back, o) {
		t.Error("a long reference", e, e2)
	}
	o.Piece = stmtgen.Piece{Code: make([]api.Instr, api.MaxCode+1)}
	if b, e := object.Encode(o); e != api.ErrFull || len(b) != 0 {
		t.Error(e)
	}
}

func TestCompiledObjects(t *testing.T) {
	for seed := range 200 {
		p := sample.Program(seed)
		o, e := object.Main(p)
		list := []object.Object{o}
		for i := range p.Procs {
			q, e := object.Proc(p, i)
			if e != api.OK {
				t.Fatal(seed, e)
			}
			list = append(list, q)
		}
		for _, o := range list {
			b, e2 := object.Encode(o)
			back, e3 := object.Decode(b)
			if e != api.OK || object.Check(o) != api.OK || e2 != api.OK || e3 != api.OK || !same(back, o) {
				t.Fatal(seed, e, e2, e3)
			}
			for flip := range 8 {
				changed := slices.Clone(b)
				changed[(seed*31+flip*17)%len(b)] ^= 1 << flip
				if o, e := object.Decode(changed); e == api.OK {
					if again, _ := object.Encode(o); !bytes.Equal(again, changed) {
						t.Fatal("a byte string that is not the object file of its object")
					}
				} else if !same(o, object.Object{}) {
					t.Fatal(o)
				}
			}
		}
	}
}
