package store

import (
	"backstep/api"
	"backstep/arith"
	"backstep/ast"
	"backstep/eval"
)

// Do executes a basic statement.
func (s *Store) Do(n api.Node) api.Errno {
	if s == nil {
		return api.ErrArg
	}
	if e := s.admit(n); e != api.OK {
		return e
	}
	return s.execute(n)
}

// Undo executes the inverse of a basic statement.
func (s *Store) Undo(n api.Node) api.Errno {
	if s == nil {
		return api.ErrArg
	}
	if e := s.admit(n); e != api.OK {
		return e
	}
	n.Kind = inverse(n.Kind)
	return s.execute(n)
}

func inverse(kind byte) byte {
	switch kind {
	case api.Push:
		return api.Pop
	case api.Pop:
		return api.Push
	case api.Read:
		return api.Unread
	case api.Unread:
		return api.Read
	case api.Write:
		return api.Unwrite
	case api.Unwrite:
		return api.Write
	}
	if opposite, ok := arith.Inverse(kind); ok {
		return opposite
	}
	return kind
}

// admit returns OK for a basic statement that fits the visible variables.
func (s *Store) admit(n api.Node) api.Errno {
	if !ast.IsStmt(n) {
		return api.ErrForm
	}
	switch n.Kind {
	case api.Plus, api.Minus, api.Flip, api.Swap, api.Push, api.Pop, api.Read, api.Unread, api.Write, api.Unwrite:
		return s.fault(n)
	case api.Set:
		return api.ErrLossy
	}
	return api.ErrType
}

// fault returns the error of the first name, in pre-order, that does not denote a variable of the right kind.
func (s *Store) fault(n api.Node) api.Errno {
	var want byte
	switch n.Kind {
	case api.Var:
		want = api.Int
	case api.Item:
		want = api.Array
	case api.Top, api.Size, api.Push, api.Pop:
		want = api.Stack
	}
	if want != 0 {
		b := s.find(n.Name)
		if b == nil {
			return api.ErrName
		}
		if b.decl.Kind != want {
			return api.ErrType
		}
	}
	for _, kid := range n.Kids {
		if e := s.fault(kid); e != api.OK {
			return e
		}
	}
	return api.OK
}

// execute carries out a basic statement without faults.
func (s *Store) execute(n api.Node) api.Errno {
	places := n.Kids[:1]
	if n.Kind == api.Swap {
		places = n.Kids
	}
	var indices [2]int
	for i, place := range places {
		index, e := eval.Index(place, s.lookup)
		if e != api.OK {
			return e
		}
		indices[i] = index
	}
	value := 0
	if _, update := arith.Inverse(n.Kind); update {
		v, e := eval.Expr(n.Kids[1], s.lookup)
		if e != api.OK {
			return e
		}
		value = v
	}
	var refs [2]*int
	for i, place := range places {
		items := s.find(place.Name).cell.items
		if indices[i] < 0 || indices[i] >= len(items) {
			return api.ErrIndex
		}
		refs[i] = &items[indices[i]]
	}
	return s.change(n, refs[0], refs[1], value)
}

// change carries out the effect of a basic statement on its places.
func (s *Store) change(n api.Node, left, right *int, value int) api.Errno {
	switch n.Kind {
	case api.Plus, api.Minus, api.Flip:
		v, e := arith.Update(n.Kind, *left, value)
		if e != api.OK {
			return e
		}
		*left = v
		return api.OK
	case api.Swap:
		*left, *right = *right, *left
		return api.OK
	case api.Push:
		return push(s.find(n.Name).cell, left)
	case api.Pop:
		return pop(s.find(n.Name).cell, left)
	case api.Read:
		return take(left, s.tape.Read, s.tape.Unread)
	case api.Unread:
		return give(left, s.tape.Unread)
	case api.Write:
		return give(left, s.tape.Write)
	case api.Unwrite:
		return take(left, s.tape.Unwrite, s.tape.Write)
	}
	return api.ErrType
}

func push(stack *cell, place *int) api.Errno {
	if len(stack.items) >= api.MaxStack {
		return api.ErrFull
	}
	stack.items = append(stack.items, *place)
	*place = 0
	return api.OK
}

func pop(stack *cell, place *int) api.Errno {
	last := len(stack.items) - 1
	if last < 0 {
		return api.ErrEmpty
	}
	if *place != 0 {
		return api.ErrClear
	}
	*place = stack.items[last]
	stack.items = stack.items[:last]
	return api.OK
}

// take moves a number from the tape to a place that must be 0; otherwise the number goes back.
func take(place *int, next func() (int, api.Errno), back func(int) api.Errno) api.Errno {
	v, e := next()
	if e != api.OK {
		return e
	}
	if *place != 0 {
		back(v)
		return api.ErrClear
	}
	*place = v
	return api.OK
}

// give moves a number from a place to the tape.
func give(place *int, to func(int) api.Errno) api.Errno {
	if e := to(*place); e != api.OK {
		return e
	}
	*place = 0
	return api.OK
}
