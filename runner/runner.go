// Package runner executes valid programs step by step. The interpreter and the tracer share it.
package runner

import (
	"backstep/api"
	"backstep/eval"
	"backstep/journal"
	"backstep/scope"
	"backstep/store"
)

// Options select how a program is run. After, if not nil, is called after each step; changes reports whether the step was a basic statement, the only steps that change the state.
type Options struct {
	Fuel     int
	Backward bool
	After    func(st *store.Store, changes bool)
}

// Outcome describes a run that ended with OK: the final state, the number of steps, and how often each procedure was entered.
type Outcome struct {
	State   api.State
	Steps   int
	Entered []int
}

type run struct {
	prog    api.Program
	store   *store.Store
	options Options
	outcome Outcome
}

// Execute runs the main block of a valid program without scope faults. With an error, the outcome is zero.
func Execute(p api.Program, s api.State, options Options) (Outcome, api.Errno) {
	st, e := store.New(p.Vars, s)
	if e != api.OK {
		return Outcome{}, api.ErrState
	}
	r := run{prog: p, store: st, options: options}
	r.outcome.Entered = make([]int, len(p.Procs))
	var j journal.Journal
	e = journal.Attempt(&j, func() { r.block(p.Main, options.Backward) })
	if e != api.OK {
		return Outcome{}, e
	}
	r.outcome.State = st.State()
	return r.outcome, api.OK
}

// step carries out one step, and aborts the run if it fails.
func (r *run) step(changes bool, act func() api.Errno) {
	if r.outcome.Steps >= r.options.Fuel {
		journal.Fail(api.ErrFuel)
	}
	if e := act(); e != api.OK {
		journal.Fail(e)
	}
	r.outcome.Steps++
	if r.options.After != nil {
		r.options.After(r.store, changes)
	}
}

func (r *run) block(n api.Node, back bool) {
	last := len(n.Kids) - 1
	for i, s := range n.Kids {
		if back {
			s = n.Kids[last-i]
		}
		r.stmt(s, back)
	}
}

func (r *run) stmt(n api.Node, back bool) {
	first, last := 0, len(n.Kids)-1
	if back {
		first, last = last, first
	}
	switch n.Kind {
	case api.If:
		r.conditional(n, n.Kids[first], n.Kids[last], back)
	case api.From:
		r.loop(n, n.Kids[first], n.Kids[last], back)
	case api.Local:
		r.local(n, n.Kids[first], n.Kids[last], back)
	case api.LocalStack:
		r.localStack(n, back)
	case api.Call:
		r.call(n, back)
	case api.Uncall:
		r.call(n, !back)
	case api.Set:
		r.step(false, func() api.Errno { return api.ErrLossy })
	default:
		r.step(true, func() api.Errno {
			if back {
				return r.store.Undo(n)
			}
			return r.store.Do(n)
		})
	}
}

// test is the step that evaluates a test.
func (r *run) test(n api.Node) bool {
	var result bool
	r.step(false, func() api.Errno {
		v, e := eval.Test(n, r.store.Cell)
		result = v
		return e
	})
	return result
}

// assert is the step that evaluates an assertion, which must have the given truth value.
func (r *run) assert(n api.Node, want bool) {
	r.step(false, func() api.Errno {
		v, e := eval.Test(n, r.store.Cell)
		if e == api.OK && v != want {
			return api.ErrAssert
		}
		return e
	})
}

func (r *run) conditional(n, test, exit api.Node, back bool) {
	taken := r.test(test)
	if taken {
		r.block(n.Kids[1], back)
	} else {
		r.block(n.Kids[2], back)
	}
	r.assert(exit, taken)
}

func (r *run) loop(n, entry, test api.Node, back bool) {
	r.assert(entry, true)
	r.block(n.Kids[1], back)
	for !r.test(test) {
		r.block(n.Kids[2], back)
		r.assert(entry, false)
		r.block(n.Kids[1], back)
	}
}

func (r *run) local(n, initial, final api.Node, back bool) {
	r.step(false, func() api.Errno {
		v, e := eval.Expr(initial, r.store.Cell)
		if e != api.OK {
			return e
		}
		return r.store.Open(api.VarDecl{Name: n.Name, Kind: api.Int}, v)
	})
	r.block(n.Kids[1], back)
	r.step(false, func() api.Errno {
		v, e := eval.Expr(final, r.store.Cell)
		if e != api.OK {
			return e
		}
		return r.store.Close(n.Name, v)
	})
}

func (r *run) localStack(n api.Node, back bool) {
	r.step(false, func() api.Errno { return r.store.Open(api.VarDecl{Name: n.Name, Kind: api.Stack}, 0) })
	r.block(n.Kids[0], back)
	r.step(false, func() api.Errno { return r.store.Close(n.Name, 0) })
}

// call enters a procedure and runs its body in the given direction.
func (r *run) call(n api.Node, back bool) {
	i := scope.Proc(r.prog, n.Name)
	if i < 0 {
		journal.Fail(api.ErrName)
	}
	var args []string
	for _, arg := range n.Kids {
		args = append(args, arg.Name)
	}
	r.step(false, func() api.Errno { return r.store.Enter(r.prog.Procs[i].Params, args) })
	r.outcome.Entered[i]++
	r.block(r.prog.Procs[i].Body, back)
	r.step(false, r.store.Leave)
}
