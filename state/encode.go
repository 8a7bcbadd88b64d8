package state

import (
	"backstep/api"
	"backstep/wire"
)

// Encode returns the encoding of a state that fits the declarations.
func Encode(vars []api.VarDecl, s api.State) ([]byte, api.Errno) {
	if !Fits(vars, s) {
		return nil, api.ErrForm
	}
	var b []byte
	for i, v := range vars {
		if v.Kind == api.Stack {
			b = appendLength(b, len(s.Cells[i]))
		}
		b = appendNumbers(b, s.Cells[i])
	}
	b = appendNumbers(appendLength(b, len(s.In)), s.In)
	return appendNumbers(appendLength(b, len(s.Out)), s.Out), api.OK
}

func appendLength(b []byte, n int) []byte {
	return wire.Append(b, 2, n)
}

func appendNumbers(b []byte, l []int) []byte {
	for _, x := range l {
		b = wire.Append(b, 8, x)
	}
	return b
}

// Decode returns the state with an encoding.
func Decode(vars []api.VarDecl, b []byte) (api.State, api.Errno) {
	if !validDecls(vars) {
		return api.State{}, api.ErrForm
	}
	r := wire.Reader{Rest: b}
	s := api.State{Cells: make([][]int, len(vars))}
	for i, v := range vars {
		if v.Kind == api.Stack {
			s.Cells[i] = list(&r, api.MaxStack)
		} else {
			s.Cells[i] = numbers(&r, width(v))
		}
	}
	s.In = list(&r, api.MaxTape)
	s.Out = list(&r, api.MaxTape)
	r.End()
	if r.Err != api.OK {
		return api.State{}, r.Err
	}
	return s, api.OK
}

func numbers(r *wire.Reader, n int) []int {
	var l []int
	for range n {
		x := r.Integer(8)
		if r.Err != api.OK {
			return nil
		}
		l = append(l, x)
	}
	return l
}

// list reads a length, which must not exceed most, and as many numbers.
func list(r *wire.Reader, most int) []int {
	n := r.Integer(2)
	if n > most {
		r.Fail(api.ErrFull)
	}
	return numbers(r, n)
}
