package cpu

import (
	"backstep/api"
	"backstep/isa"
)

// control executes an instruction with a target. The targets are compared with the code, so that images that are not valid do no harm.
func control(im api.Image, m *api.Machine, at int) api.Errno {
	i := im.Code[at]
	target, _ := isa.Target(i)
	if target >= len(im.Code) || !isa.Valid(im.Code[target]) {
		return api.ErrState
	}
	switch i.Op {
	case api.OpCall, api.OpUncall:
		return call(im, m, at)
	case api.OpEnd:
		if m.Dir < 0 {
			return api.ErrJump
		}
		return leave(im, m, target)
	case api.OpStart:
		if m.Dir > 0 {
			return api.ErrJump
		}
		return leave(im, m, at)
	}
	return branch(im, m, at, target)
}

// branch executes a jump or a landing. A machine branches at a jump when it moves forward, and at a landing when it moves backward; otherwise the condition says whether it should have come from the other end.
func branch(im api.Image, m *api.Machine, at, partner int) api.Errno {
	from := at
	if holds(m, im.Code[at]) {
		if isa.IsJump(im.Code[at].Op) != (m.Dir > 0) || !holds(m, im.Code[partner]) {
			return api.ErrAssert
		}
		from = partner
	}
	m.PC = beyond(m.Dir, from)
	return api.OK
}

// beyond returns the position behind an instruction in a direction.
func beyond(dir, at int) int {
	if dir > 0 {
		return at + 1
	}
	return at
}

// holds reports whether the condition of a jump or landing holds.
func holds(m *api.Machine, i api.Instr) bool {
	switch i.Op {
	case api.OpJmpZ, api.OpLandZ:
		return m.R[i.A] == 0
	case api.OpJmpN, api.OpLandN:
		return m.R[i.A] != 0
	}
	return true
}

// call enters a procedure. An uncall turns the machine round.
func call(im api.Image, m *api.Machine, at int) api.Errno {
	if len(m.Calls) >= api.MaxCalls {
		return api.ErrDepth
	}
	turn := im.Code[at].Op == api.OpUncall
	m.Calls = append(m.Calls, api.Activation{Site: at, Turn: turn})
	if turn {
		Turn(m)
	}
	start := im.Code[at].A
	m.PC = start + 1
	if m.Dir < 0 {
		m.PC = im.Code[start].A
	}
	return api.OK
}

// leave returns from the procedure that starts at an index.
func leave(im api.Image, m *api.Machine, start int) api.Errno {
	last := len(m.Calls) - 1
	if last < 0 {
		return api.ErrJump
	}
	a := m.Calls[last]
	want := api.Instr{Op: api.OpCall, A: start}
	if a.Turn {
		want.Op = api.OpUncall
	}
	if im.Code[a.Site] != want {
		return api.ErrJump
	}
	m.Calls = m.Calls[:last]
	if a.Turn {
		Turn(m)
	}
	m.PC = beyond(m.Dir, a.Site)
	return api.OK
}
