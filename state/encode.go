package state

import "backstep/api"

// Encode returns the encoding of a state that fits the declarations.
func Encode(vars []api.VarDecl, s api.State) ([]byte, api.Errno) {
	if !Fits(vars, s) {
		return nil, api.ErrForm
	}
	var b []byte
	for i, v := range vars {
		if v.Kind == api.Stack {
			b = appendLength(b, len(s.Cells[i]))
		}
		b = appendNumbers(b, s.Cells[i])
	}
	b = appendNumbers(appendLength(b, len(s.In)), s.In)
	return appendNumbers(appendLength(b, len(s.Out)), s.Out), api.OK
}

func appendLength(b []byte, n int) []byte {
	return append(b, byte(n>>8), byte(n))
}

func appendNumbers(b []byte, l []int) []byte {
	for _, x := range l {
		for shift := 56; shift >= 0; shift -= 8 {
			b = append(b, byte(x>>shift))
		}
	}
	return b
}

// reader takes numbers from the front of a byte string, and keeps the first error.
type reader struct {
	b   []byte
	err api.Errno
}

// Decode returns the state with an encoding.
func Decode(vars []api.VarDecl, b []byte) (api.State, api.Errno) {
	if !validDecls(vars) {
		return api.State{}, api.ErrForm
	}
	r := reader{b: b}
	s := api.State{Cells: make([][]int, len(vars))}
	for i, v := range vars {
		if v.Kind == api.Stack {
			s.Cells[i] = r.list(api.MaxStack)
		} else {
			s.Cells[i] = r.numbers(width(v))
		}
	}
	s.In = r.list(api.MaxTape)
	s.Out = r.list(api.MaxTape)
	if r.err == api.OK && len(r.b) > 0 {
		r.err = api.ErrForm
	}
	if r.err != api.OK {
		return api.State{}, r.err
	}
	return s, api.OK
}

// integer reads an integer of n bytes.
func (r *reader) integer(n int) int {
	if r.err == api.OK && len(r.b) < n {
		r.err = api.ErrEnd
	}
	if r.err != api.OK {
		return 0
	}
	x := 0
	for _, c := range r.b[:n] {
		x = x<<8 | int(c)
	}
	r.b = r.b[n:]
	return x
}

func (r *reader) numbers(n int) []int {
	var l []int
	for range n {
		x := r.integer(8)
		if r.err != api.OK {
			return nil
		}
		l = append(l, x)
	}
	return l
}

// list reads a length, which must not exceed most, and as many numbers.
func (r *reader) list(most int) []int {
	n := r.integer(2)
	if r.err == api.OK && n > most {
		r.err = api.ErrFull
	}
	return r.numbers(n)
}
