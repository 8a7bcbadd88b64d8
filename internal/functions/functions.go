// Package functions has libraries of functions for tests.
package functions

import "backstep/api"

// Text is a library with functions on integers and lists, nested calls, recursion, and errors.
const Text = `
proc inc(int x) int { x + 1 }
proc sq(int x) int { x * x }
proc len(stack xs) int { if !xs { 0 } else { 1 + len(pop(xs)) } }
proc app(stack xs, stack ys) stack { if !xs { ys } else { push(top(xs), app(pop(xs), ys)) } }
proc fib(int n) int { if n < 2 { n } else { fib(n - 1) + fib(n - 2) } }
proc rev(stack xs, stack acc) stack { if !xs { acc } else { local h = top(xs) { rev(pop(xs), push(h, acc)) } } }
proc mix(int a, stack l) int { local b = a * a { if b > 3 { len(app(l, l)) / (b - 4) } else { top(rev(l, [])) } } }
proc poly(int a) int { sq(inc(sq(a))) - sq(local b = a { inc(b) }) }
proc pair(int a) stack { push(a, push(inc(a), [])) }
proc const() int { 7 }
proc id(stack l) stack { l }
`

// Call is a function with arguments.
type Call struct {
	Name string
	Args []api.Value
}

func num(n int) api.Value     { return api.Value{N: n} }
func list(l ...int) api.Value { return api.Value{List: true, L: l} }

// Calls returns calls of the functions in Text; some of them fail.
func Calls() []Call {
	return []Call{
		{"inc", []api.Value{num(41)}}, {"inc", []api.Value{num(1<<63 - 1)}}, {"sq", []api.Value{num(-3)}}, {"len", []api.Value{list()}}, {"len", []api.Value{list(7, 8, 9)}},
		{"app", []api.Value{list(1, 2), list(3)}}, {"app", []api.Value{list(), list()}}, {"fib", []api.Value{num(1)}}, {"fib", []api.Value{num(5)}}, {"rev", []api.Value{list(1, 2, 3), list(4)}},
		{"mix", []api.Value{num(1), list(5, 6)}}, {"mix", []api.Value{num(3), list(5)}}, {"mix", []api.Value{num(2), list(5)}}, {"mix", []api.Value{num(2), list()}}, {"mix", []api.Value{num(0), list()}},
		{"poly", []api.Value{num(3)}}, {"pair", []api.Value{num(-1)}}, {"const", nil}, {"id", []api.Value{list(3, 1)}}, {"id", []api.Value{list()}},
	}
}
