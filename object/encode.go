package object

import (
	"slices"

	"backstep/api"
	"backstep/asm"
	"backstep/layout"
	"backstep/stmtgen"
	"backstep/wire"
)

const (
	maxString = 255
	maxSlots  = 65535
)

func appendString(b []byte, s string) []byte {
	return append(wire.Append(b, 1, len(s)), s...)
}

// Encode returns the object file of a well-formed object.
func Encode(o Object) ([]byte, api.Errno) {
	if e := Check(o); e != api.OK {
		return nil, e
	}
	code, e := asm.Encode(o.Piece.Code)
	long := func(r stmtgen.Ref) bool { return len(r.Name) > maxString }
	if e != api.OK || len(o.Frame.Slots) > maxSlots || slices.ContainsFunc(o.Piece.Refs, long) {
		return nil, api.ErrFull
	}
	b := appendString(nil, o.Name)
	b = wire.Append(b, 1, len(o.Params))
	for _, v := range o.Params {
		b = wire.Append(wire.Append(appendString(b, v.Name), 1, int(v.Kind)), 1, v.Len)
	}
	b = wire.Append(wire.Append(b, 4, o.Frame.Cells), 4, o.Frame.Stacks)
	b = wire.Append(b, 2, len(o.Frame.Slots))
	for _, s := range o.Frame.Slots {
		b = wire.Append(wire.Append(appendString(b, s.Name), 1, int(s.Kind)), 1, s.Len)
		b = wire.Append(b, 4, s.At)
	}
	b = append(wire.Append(b, 4, len(code)), code...)
	b = wire.Append(b, 4, len(o.Piece.Refs))
	for _, r := range o.Piece.Refs {
		b = appendString(wire.Append(b, 4, r.At), r.Name)
	}
	return b, api.OK
}

// reader reads the parts of an object file; it inherits the error that is kept.
type reader struct{ wire.Reader }

func (r *reader) text() string { return string(r.Bytes(r.Integer(1))) }

// Decode returns the object with an object file.
func Decode(b []byte) (Object, api.Errno) {
	r := reader{wire.Reader{Rest: b}}
	o := Object{Name: r.text()}
	for n := r.Integer(1); n > 0 && r.Err == api.OK; n-- {
		o.Params = append(o.Params, api.VarDecl{Name: r.text(), Kind: byte(r.Integer(1)), Len: r.Integer(1)})
	}
	o.Frame.Cells, o.Frame.Stacks = r.Integer(4), r.Integer(4)
	for n := r.Integer(2); n > 0 && r.Err == api.OK; n-- {
		o.Frame.Slots = append(o.Frame.Slots, layout.Slot{Name: r.text(), Kind: byte(r.Integer(1)), Len: r.Integer(1), At: r.Integer(4)})
	}
	encoded := r.Bytes(r.Integer(4))
	for n := r.Integer(4); n > 0 && r.Err == api.OK; n-- {
		o.Piece.Refs = append(o.Piece.Refs, stmtgen.Ref{At: r.Integer(4), Name: r.text()})
	}
	r.End()
	if r.Err != api.OK {
		return Object{}, r.Err
	}
	code, e := asm.Decode(encoded)
	if e != api.OK {
		return Object{}, api.ErrForm
	}
	o.Piece.Code = code
	if e := Check(o); e != api.OK {
		return Object{}, e
	}
	return o, api.OK
}
