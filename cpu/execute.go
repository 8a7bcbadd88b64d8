package cpu

import (
	"slices"

	"backstep/api"
	"backstep/arith"
)

// execute carries out a valid instruction without target.
func execute(m *api.Machine, i api.Instr) api.Errno {
	switch i.Op {
	case api.OpMem, api.OpIdx:
		return exchange(m, i)
	case api.OpPush, api.OpPop, api.OpTop, api.OpSize, api.OpSwapS:
		return stacks(m, i)
	case api.OpRead, api.OpUnread, api.OpWrite, api.OpUnwrite:
		return tapes(m, i)
	case api.OpFrame:
		return frame(m, i.A, i.B)
	case api.OpUnframe:
		return frame(m, -i.A, -i.B)
	}
	return registers(m, i)
}

func registers(m *api.Machine, i api.Instr) api.Errno {
	r := &m.R
	switch i.Op {
	case api.OpAdd:
		r[i.A] += r[i.B]
	case api.OpSub:
		r[i.A] -= r[i.B]
	case api.OpXor:
		r[i.A] ^= r[i.B]
	case api.OpAddI:
		r[i.A] += i.B
	case api.OpSubI:
		r[i.A] -= i.B
	case api.OpXorI:
		r[i.A] ^= i.B
	case api.OpSwap:
		r[i.A], r[i.B] = r[i.B], r[i.A]
	case api.OpNeg:
		r[i.A] = -r[i.A]
	case api.OpCalc:
		v, e := arith.Apply(byte(i.D), r[i.B], r[i.C])
		if e != api.OK {
			return e
		}
		r[i.A] ^= v
	case api.OpZero:
		if r[i.A] != 0 {
			return api.Errno(i.B)
		}
	}
	return api.OK
}

func exchange(m *api.Machine, i api.Instr) api.Errno {
	address := m.FP + i.B
	if i.Op == api.OpIdx {
		index := m.R[i.B]
		if index < 0 || index >= i.D {
			return api.ErrIndex
		}
		address = m.FP + i.C + index
	}
	if address >= len(m.M) {
		return api.ErrIndex
	}
	m.R[i.A], m.M[address] = m.M[address], m.R[i.A]
	return api.OK
}

// stack returns the stack that a number denotes, or nil.
func stack(m *api.Machine, k int) *[]int {
	if k > 0 {
		k += m.SB
	}
	if k >= len(m.S) {
		return nil
	}
	return &m.S[k]
}

func stacks(m *api.Machine, i api.Instr) api.Errno {
	if i.Op == api.OpSwapS {
		return swapStacks(m, i)
	}
	s := stack(m, i.B)
	if s == nil {
		return api.ErrIndex
	}
	r, last := &m.R[i.A], len(*s)-1
	switch i.Op {
	case api.OpSize:
		*r ^= len(*s)
		return api.OK
	case api.OpPush:
		if i.B > 0 && len(*s) >= api.MaxStack {
			return api.ErrFull
		}
		*s = append(*s, *r)
		*r = 0
		return api.OK
	}
	if last < 0 {
		return api.ErrEmpty
	}
	if i.Op == api.OpTop {
		*r ^= (*s)[last]
		return api.OK
	}
	if *r != 0 {
		return api.ErrClear
	}
	*r = (*s)[last]
	*s = (*s)[:last]
	return api.OK
}

func swapStacks(m *api.Machine, i api.Instr) api.Errno {
	a, b := stack(m, i.A), stack(m, i.B)
	if a == nil || b == nil {
		return api.ErrIndex
	}
	if i.A > 0 && len(*b) > api.MaxStack || i.B > 0 && len(*a) > api.MaxStack {
		return api.ErrFull
	}
	*a, *b = *b, *a
	return api.OK
}

func tapes(m *api.Machine, i api.Instr) api.Errno {
	r := &m.R[i.A]
	switch i.Op {
	case api.OpUnread, api.OpWrite:
		tape, at := &m.In, 0
		if i.Op == api.OpWrite {
			tape, at = &m.Out, len(m.Out)
		}
		if len(*tape) >= api.MaxTape {
			return api.ErrFull
		}
		*tape = slices.Insert(*tape, at, *r)
		*r = 0
		return api.OK
	}
	tape, at := &m.In, 0
	if i.Op == api.OpUnwrite {
		tape, at = &m.Out, len(m.Out)-1
	}
	if len(*tape) == 0 {
		return api.ErrTape
	}
	if *r != 0 {
		return api.ErrClear
	}
	*r = (*tape)[at]
	*tape = slices.Delete(*tape, at, at+1)
	return api.OK
}

// frame moves the frame pointers.
func frame(m *api.Machine, cells, stacks int) api.Errno {
	fp, sb := m.FP+cells, m.SB+stacks
	if fp < 0 || fp > len(m.M) || sb < 0 || sb > len(m.S) {
		return api.ErrIndex
	}
	m.FP, m.SB = fp, sb
	return api.OK
}
