// Package stmtgen is layer 28: code for statements.
package stmtgen

import (
	"slices"

	"backstep/api"
	"backstep/isa"
)

// Ref is a call instruction whose target is not yet known.
type Ref struct {
	At   int
	Name string
}

// Piece is position-independent code: the targets of jumps and landings are relative to its first instruction.
type Piece struct {
	Code []api.Instr
	Refs []Ref
}

func isBranch(op byte) bool { return isa.IsJump(op) || isa.IsLanding(op) }
func isCall(op byte) bool   { return op == api.OpCall || op == api.OpUncall }

// join returns correct pieces one after the other.
func join(l ...Piece) Piece {
	var whole Piece
	for _, p := range l {
		base := len(whole.Code)
		for _, i := range p.Code {
			if isBranch(i.Op) {
				t, _ := isa.Target(i)
				i = isa.Retarget(i, base+t)
			}
			whole.Code = append(whole.Code, i)
		}
		for _, r := range p.Refs {
			whole.Refs = append(whole.Refs, Ref{base + r.At, r.Name})
		}
	}
	return whole
}

// Concat returns the pieces one after the other.
func Concat(l ...Piece) (Piece, api.Errno) {
	size := 0
	for _, p := range l {
		if _, e := Check(p); e != api.OK {
			return Piece{}, e
		}
		size += len(p.Code)
	}
	if size > api.MaxCode {
		return Piece{}, api.ErrFull
	}
	return join(l...), api.OK
}

// Invert returns the inverse of a piece.
func Invert(p Piece) (Piece, api.Errno) {
	if _, e := Check(p); e != api.OK {
		return Piece{}, e
	}
	if len(p.Code) > api.MaxCode {
		return Piece{}, api.ErrFull
	}
	last := len(p.Code) - 1
	var inverse Piece
	for _, i := range slices.Backward(p.Code) {
		if isBranch(i.Op) {
			t, _ := isa.Target(i)
			i = isa.Retarget(i, last-t)
		}
		inverse.Code = append(inverse.Code, isa.Inverse(i))
	}
	for _, r := range slices.Backward(p.Refs) {
		inverse.Refs = append(inverse.Refs, Ref{last - r.At, r.Name})
	}
	return inverse, api.OK
}

// Check returns -1 and OK for a correct piece, and otherwise the index of the first wrong instruction.
func Check(p Piece) (int, api.Errno) {
	referenced := map[int]bool{}
	for _, r := range p.Refs {
		referenced[r.At] = true
	}
	next := 0
	for at, i := range p.Code {
		switch {
		case !isa.Valid(i) || i.Op == api.OpStart || i.Op == api.OpEnd || i.Op == api.OpHalt:
			return at, api.ErrForm
		case isBranch(i.Op) && !hasPartner(p.Code, at):
			return at, api.ErrJump
		case isCall(i.Op):
			if i.A != 0 || next == len(p.Refs) || p.Refs[next].At != at {
				return at, api.ErrName
			}
			next++
		case referenced[at]:
			return at, api.ErrName
		}
	}
	if next < len(p.Refs) {
		return len(p.Code), api.ErrName
	}
	return -1, api.OK
}

// hasPartner reports whether a jump and a landing refer to each other.
func hasPartner(code []api.Instr, at int) bool {
	t, _ := isa.Target(code[at])
	if t >= len(code) || isa.IsJump(code[at].Op) && !isa.IsLanding(code[t].Op) || isa.IsLanding(code[at].Op) && !isa.IsJump(code[t].Op) {
		return false
	}
	back, _ := isa.Target(code[t])
	return back == at
}
