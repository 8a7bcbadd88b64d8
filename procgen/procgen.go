// Package procgen has what the two translations of functions into procedures have in common.
package procgen

import (
	"slices"

	"backstep/anf"
	"backstep/api"
	"backstep/ast"
	"backstep/build"
	"backstep/fun"
	"backstep/inverter"
	"backstep/listlib"
)

// Out is the parameter that receives the result.
const Out = "out"

// CopyResult returns the statement that copies the result of a function to out.
func CopyResult(f anf.Func) api.Node {
	if f.List {
		return build.Call(api.Call, listlib.Copy, f.Result, Out)
	}
	return build.Node(api.Flip, build.Ref(Out), build.Ref(f.Result))
}

// Clean returns the statements of c, the copy of the result, and the statements of the inverse of c. If c calls procedures with too many arguments, it has no inverse; then its own statements stand for it, so that the size is right.
func Clean(f anf.Func, c api.Node) api.Node {
	inverse, e := inverter.Stmt(c)
	if e != api.OK {
		inverse = c
	}
	return build.Block(slices.Concat(c.Kids, []api.Node{CopyResult(f)}, inverse.Kids)...)
}

// Proc returns a procedure, or the error of its body: ErrDepth or ErrFull if it is too large, or ErrFull if it is no valid block, because it calls a procedure with too many arguments.
func Proc(name string, params []api.VarDecl, body api.Node) (api.Proc, api.Errno) {
	if e := build.Fits(body); e != api.OK {
		return api.Proc{}, e
	}
	if len(params) > api.MaxParams || !ast.IsBlock(body) {
		return api.Proc{}, api.ErrFull
	}
	return api.Proc{Name: name, Params: params, Body: body}, api.OK
}

// CheckNames returns the error of a function, or of a set of kept functions, that a library does not have.
func CheckNames(lib []api.Func, name string, kept []string) api.Errno {
	missing := func(name string) bool { return fun.Find(lib, name) < 0 }
	if missing(name) || slices.ContainsFunc(kept, missing) {
		return api.ErrNone
	}
	for i, k := range kept {
		if slices.Contains(kept[:i], k) {
			return api.ErrTwice
		}
	}
	return api.OK
}
