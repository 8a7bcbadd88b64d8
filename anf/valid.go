package anf

import (
	"maps"
	"slices"

	"backstep/api"
	"backstep/fun"
)

// find returns the index of a function, or -1.
func find(lib []Func, name string) int {
	return slices.IndexFunc(lib, func(f Func) bool { return f.Name == name })
}

// Valid reports whether a library of normalized functions is valid.
func Valid(lib []Func) bool {
	if len(lib) > fun.MaxFuns {
		return false
	}
	for i, f := range lib {
		if find(lib, f.Name) < i || !validFunc(lib, f) {
			return false
		}
	}
	return true
}

// scope says which variables of a function are in scope, with their types, and counts the binds of the temporaries.
type scope struct {
	lib   []Func
	types map[string]bool
	temps map[string]bool
	bound map[string]int
}

func validFunc(lib []Func, f Func) bool {
	s := scope{lib, map[string]bool{}, map[string]bool{}, map[string]int{}}
	for _, p := range f.Params {
		s.types[p.Name] = p.List
	}
	for _, t := range f.Temps {
		s.temps[t.Name] = t.List
	}
	names := maps.Clone(s.types)
	maps.Copy(names, s.temps)
	if len(f.Params) > api.MaxParams || len(names) < len(f.Params)+len(f.Temps) || !s.binds(f.Body) {
		return false
	}
	for _, t := range f.Temps {
		if s.bound[t.Name] != 1 {
			return false
		}
	}
	list, ok := s.types[f.Result]
	return ok && list == f.List
}

// binds reports whether binds are valid one after the other. Afterwards their temporaries are in scope.
func (s scope) binds(l []Bind) bool {
	for _, b := range l {
		if !s.bind(b) {
			return false
		}
		s.types[b.To] = b.List
		s.bound[b.To]++
	}
	return true
}

func (s scope) bind(b Bind) bool {
	list, temp := s.temps[b.To]
	_, early := s.types[b.To]
	if !temp || list != b.List || early {
		return false
	}
	var args []bool
	for _, arg := range b.Args {
		t, ok := s.types[arg]
		if !ok {
			return false
		}
		args = append(args, t)
	}
	want, list, ok := s.operation(b, args)
	return ok && slices.Equal(args, want) && list == b.List && zeroFields(b) && (b.Op != api.FIf || s.branch(b.Then, b.To) && s.branch(b.Else, b.To))
}

// operation returns the types of the arguments and of the result of an operation.
func (s scope) operation(b Bind, args []bool) (want []bool, list, ok bool) {
	switch b.Op {
	case api.FNum:
		return nil, false, true
	case api.FVar:
		if len(args) != 1 {
			return nil, false, false
		}
		return args, args[0], true
	case api.FOp:
		return []bool{false, false}, false, b.Num >= int(api.Add) && b.Num <= int(api.Either)
	case api.FIf:
		return []bool{false}, b.List, true
	case api.FCall:
		return s.call(b)
	case api.FNil:
		return nil, true, true
	case api.FCons:
		return []bool{false, true}, true, true
	case api.FHead, api.FNull:
		return []bool{true}, false, true
	case api.FTail:
		return []bool{true}, true, true
	}
	return nil, false, false
}

// call demands different temporaries, because the arguments become those of a procedure.
func (s scope) call(b Bind) (want []bool, list, ok bool) {
	i := find(s.lib, b.Name)
	if i < 0 {
		return nil, false, false
	}
	seen := map[string]bool{}
	for _, arg := range b.Args {
		if _, temp := s.temps[arg]; !temp || seen[arg] {
			return nil, false, false
		}
		seen[arg] = true
	}
	for _, p := range s.lib[i].Params {
		want = append(want, p.List)
	}
	return want, s.lib[i].List, true
}

// zeroFields reports whether the fields that an operation does not use are zero.
func zeroFields(b Bind) bool {
	return (b.Op == api.FNum || b.Op == api.FOp || b.Num == 0) && (b.Op == api.FCall || b.Name == "") && (b.Op == api.FIf || len(b.Then)+len(b.Else) == 0)
}

// branch reports whether the binds of a branch are valid. Only the last one stores into the temporary of the FIf, and is not counted.
func (s scope) branch(l []Bind, to string) bool {
	last := len(l) - 1
	if last < 0 || l[last].To != to || slices.ContainsFunc(l[:last], func(b Bind) bool { return b.To == to }) {
		return false
	}
	inner := s
	inner.types = maps.Clone(s.types)
	if !inner.binds(l) {
		return false
	}
	s.bound[to]--
	return true
}
