package stmtgen

import (
	"slices"

	"backstep/api"
	"backstep/ast"
	"backstep/layout"
)

// procedure returns the first procedure with a name.
func procedure(procs []api.Proc, name string) (api.Proc, bool) {
	i := slices.IndexFunc(procs, func(p api.Proc) bool { return p.Name == name })
	if i < 0 {
		return api.Proc{}, false
	}
	return procs[i], true
}

// checkBlock returns the error of the first statement, in pre-order, for which there is no code.
func checkBlock(n api.Node, f layout.Frame, procs []api.Proc) api.Errno {
	for _, s := range n.Kids {
		if e := checkStmt(s, f, procs); e != api.OK {
			return e
		}
		for _, kid := range s.Kids {
			if kid.Kind != api.Block {
				continue
			}
			if e := checkBlock(kid, f, procs); e != api.OK {
				return e
			}
		}
	}
	return api.OK
}

// checkStmt returns the error of a statement without its blocks.
func checkStmt(n api.Node, f layout.Frame, procs []api.Proc) api.Errno {
	switch n.Kind {
	case api.Set:
		return api.ErrLossy
	case api.Call, api.Uncall:
		return checkCall(n, f, procs)
	}
	if !hasSlot(n, f) {
		return api.ErrName
	}
	for _, kid := range n.Kids {
		if kid.Kind == api.Block {
			continue
		}
		for _, m := range ast.Walk(kid) {
			if !hasSlot(m, f) {
				return api.ErrName
			}
		}
	}
	return api.OK
}

// hasSlot reports whether the frame has a slot for the variable that a node names, if it names one.
func hasSlot(n api.Node, f layout.Frame) bool {
	var kind byte
	switch n.Kind {
	case api.Var, api.Local:
		kind = api.Int
	case api.Item:
		kind = api.Array
	case api.Top, api.Size, api.Push, api.Pop, api.LocalStack:
		kind = api.Stack
	default:
		return true
	}
	_, ok := f.Find(n.Name, kind)
	return ok
}

func checkCall(n api.Node, f layout.Frame, procs []api.Proc) api.Errno {
	p, ok := procedure(procs, n.Name)
	if !ok {
		return api.ErrName
	}
	lengths := true
	for i := range min(len(p.Params), len(n.Kids)) {
		slot, ok := f.Find(n.Kids[i].Name, p.Params[i].Kind)
		if !ok {
			return api.ErrName
		}
		if slot.Kind == api.Array && slot.Len != p.Params[i].Len {
			lengths = false
		}
	}
	if !lengths || len(p.Params) != len(n.Kids) {
		return api.ErrType
	}
	return api.OK
}
