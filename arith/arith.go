// Package arith is layer 1: integer operators and the reversible updates.
package arith

import "backstep/api"

// symbols is indexed by node kind.
var symbols = [...]string{
	api.Neg: "-", api.Not: "!",
	api.Add: "+", api.Sub: "-", api.Mul: "*", api.Div: "/", api.Mod: "%",
	api.And: "&", api.Or: "|", api.Xor: "^",
	api.Eq: "==", api.Ne: "!=", api.Lt: "<", api.Le: "<=", api.Gt: ">", api.Ge: ">=",
	api.Both: "&&", api.Either: "||",
	api.Plus: "+=", api.Minus: "-=", api.Flip: "^=",
}

// Apply returns the value of a binary operator.
func Apply(op byte, x, y int) (int, api.Errno) {
	switch op {
	case api.Add:
		return x + y, api.OK
	case api.Sub:
		return x - y, api.OK
	case api.Mul:
		return x * y, api.OK
	case api.Div, api.Mod:
		return divide(op, x, y)
	case api.And:
		return x & y, api.OK
	case api.Or:
		return x | y, api.OK
	case api.Xor:
		return x ^ y, api.OK
	case api.Both:
		return number(x != 0 && y != 0), api.OK
	case api.Either:
		return number(x != 0 || y != 0), api.OK
	}
	return compare(op, x, y)
}

// divide relies on Go's rule that the least integer divided by -1 is itself, with remainder 0.
func divide(op byte, x, y int) (int, api.Errno) {
	if y == 0 {
		return 0, api.ErrDivide
	}
	if op == api.Div {
		return x / y, api.OK
	}
	return x % y, api.OK
}

func compare(op byte, x, y int) (int, api.Errno) {
	switch op {
	case api.Eq:
		return number(x == y), api.OK
	case api.Ne:
		return number(x != y), api.OK
	case api.Lt:
		return number(x < y), api.OK
	case api.Le:
		return number(x <= y), api.OK
	case api.Gt:
		return number(x > y), api.OK
	case api.Ge:
		return number(x >= y), api.OK
	}
	return 0, api.ErrType
}

func number(b bool) int {
	if b {
		return 1
	}
	return 0
}

// Unary returns the value of a unary operator.
func Unary(op byte, x int) (int, api.Errno) {
	switch op {
	case api.Neg:
		return -x, api.OK
	case api.Not:
		return number(x == 0), api.OK
	}
	return 0, api.ErrType
}

// Update returns the value that an update operator stores.
func Update(kind byte, x, y int) (int, api.Errno) {
	switch kind {
	case api.Plus:
		return x + y, api.OK
	case api.Minus:
		return x - y, api.OK
	case api.Flip:
		return x ^ y, api.OK
	}
	return 0, api.ErrType
}

// Inverse returns the update operator that undoes kind.
func Inverse(kind byte) (byte, bool) {
	switch kind {
	case api.Plus:
		return api.Minus, true
	case api.Minus:
		return api.Plus, true
	case api.Flip:
		return api.Flip, true
	}
	return 0, false
}

// Truth returns 1 for every number but 0.
func Truth(x int) int {
	return number(x != 0)
}

// Symbol returns the symbol of a binary, unary, or update operator.
func Symbol(op byte) string {
	if int(op) >= len(symbols) {
		return ""
	}
	return symbols[op]
}

// Level returns the precedence level of an operator.
func Level(op byte) int {
	switch op {
	case api.Either:
		return 1
	case api.Both:
		return 2
	case api.Or:
		return 3
	case api.Xor:
		return 4
	case api.And:
		return 5
	case api.Eq, api.Ne, api.Lt, api.Le, api.Gt, api.Ge:
		return 6
	case api.Add, api.Sub:
		return 7
	case api.Mul, api.Div, api.Mod:
		return 8
	case api.Neg, api.Not:
		return 9
	}
	return 0
}

// Operators returns all binary operators in ascending order.
func Operators() []byte {
	var l []byte
	for op := api.Add; op <= api.Either; op++ {
		l = append(l, op)
	}
	return l
}
