// Package build has constructors of syntax trees for the layers that generate programs.
package build

import (
	"slices"

	"backstep/api"
	"backstep/ast"
)

// Num returns a constant.
func Num(n int) api.Node { return api.Node{Kind: api.Num, Num: n} }

// Ref returns a variable.
func Ref(name string) api.Node { return api.Node{Kind: api.Var, Name: name} }

// Node returns a node without a name.
func Node(kind byte, kids ...api.Node) api.Node { return api.Node{Kind: kind, Kids: kids} }

// Named returns a node with a name.
func Named(kind byte, name string, kids ...api.Node) api.Node {
	return api.Node{Kind: kind, Name: name, Kids: kids}
}

// Block returns a block.
func Block(stmts ...api.Node) api.Node { return Node(api.Block, stmts...) }

// Call returns a call or uncall of a procedure.
func Call(kind byte, name string, args ...string) api.Node {
	n := api.Node{Kind: kind, Name: name}
	for _, arg := range args {
		n.Kids = append(n.Kids, Ref(arg))
	}
	return n
}

// Local returns the declaration of an integer for some statements.
func Local(name string, initial, final api.Node, stmts ...api.Node) api.Node {
	return Named(api.Local, name, initial, Block(stmts...), final)
}

// Decl returns the declaration of an integer, or of a stack for a list.
func Decl(name string, list bool) api.VarDecl {
	if list {
		return api.VarDecl{Name: name, Kind: api.Stack}
	}
	return api.VarDecl{Name: name, Kind: api.Int}
}

// Locals returns a block in locals for all temporaries, the first one outermost.
func Locals(temps []api.Param, block api.Node) api.Node {
	for _, t := range slices.Backward(temps) {
		if t.List {
			block = Block(Named(api.LocalStack, t.Name, block))
		} else {
			block = Block(Named(api.Local, t.Name, Num(0), block, Num(0)))
		}
	}
	return block
}

// Fits returns the error of a procedure body that is too deep or too large.
func Fits(body api.Node) api.Errno {
	if ast.Depth(body) > api.MaxDepth {
		return api.ErrDepth
	}
	if ast.Size(body) > api.MaxNodes {
		return api.ErrFull
	}
	return api.OK
}
