package anf

import (
	"slices"

	"backstep/api"
	"backstep/arith"
)

// evaluator keeps the fuel that is left and the number of active calls.
type evaluator struct {
	lib    []Func
	fuel   int
	active int
}

// Eval returns the value of a function of a valid library.
func Eval(lib []Func, name string, args []api.Value, fuel int) (api.Value, api.Errno) {
	if !Valid(lib) {
		return api.Value{}, api.ErrForm
	}
	i := find(lib, name)
	if i < 0 {
		return api.Value{}, api.ErrNone
	}
	same := func(a api.Value, p api.Param) bool { return a.List == p.List }
	if !slices.EqualFunc(args, lib[i].Params, same) {
		return api.Value{}, api.ErrType
	}
	if slices.ContainsFunc(args, func(a api.Value) bool { return a.List && len(a.L) > api.MaxStack }) {
		return api.Value{}, api.ErrFull
	}
	v := evaluator{lib: lib, fuel: fuel}
	result, e := v.call(lib[i], args)
	if e != api.OK {
		return api.Value{}, e
	}
	if result.List {
		return list(slices.Clone(result.L)), api.OK
	}
	return integer(result.N), api.OK
}

func integer(n int) api.Value { return api.Value{N: n} }
func list(l []int) api.Value  { return api.Value{List: true, L: l} }

// call executes the binds of a function. Lists are never modified, so that values can share them.
func (v *evaluator) call(f Func, args []api.Value) (api.Value, api.Errno) {
	if v.active >= api.MaxRec {
		return api.Value{}, api.ErrDepth
	}
	env := map[string]api.Value{}
	for i, p := range f.Params {
		env[p.Name] = args[i]
	}
	v.active++
	e := v.binds(f.Body, env)
	v.active--
	return env[f.Result], e
}

func (v *evaluator) binds(l []Bind, env map[string]api.Value) api.Errno {
	for _, b := range l {
		if v.fuel <= 0 {
			return api.ErrFuel
		}
		v.fuel--
		if b.Op == api.FIf {
			branch := b.Else
			if env[b.Args[0]].N != 0 {
				branch = b.Then
			}
			if e := v.binds(branch, env); e != api.OK {
				return e
			}
			continue
		}
		var args []api.Value
		for _, arg := range b.Args {
			args = append(args, env[arg])
		}
		value, e := v.operate(b, args)
		if e != api.OK {
			return e
		}
		env[b.To] = value
	}
	return api.OK
}

func (v *evaluator) operate(b Bind, x []api.Value) (api.Value, api.Errno) {
	switch b.Op {
	case api.FNum:
		return integer(b.Num), api.OK
	case api.FVar:
		return x[0], api.OK
	case api.FCall:
		return v.call(v.lib[find(v.lib, b.Name)], x)
	case api.FOp:
		r, e := arith.Apply(byte(b.Num), x[0].N, x[1].N)
		return integer(r), e
	case api.FCons:
		if len(x[1].L) >= api.MaxStack {
			return api.Value{}, api.ErrFull
		}
		return list(append([]int{x[0].N}, x[1].L...)), api.OK
	case api.FNull:
		if len(x[0].L) == 0 {
			return integer(1), api.OK
		}
		return integer(0), api.OK
	case api.FHead, api.FTail:
		if len(x[0].L) == 0 {
			return api.Value{}, api.ErrEmpty
		}
		if b.Op == api.FHead {
			return integer(x[0].L[0]), api.OK
		}
		return list(x[0].L[1:]), api.OK
	}
	return list(nil), api.OK
}
