// Package sample generates accepted programs and states for tests.
package sample

import (
	"backstep/api"
)

// source is a generator of numbers that depend on the seed only.
type source struct{ x uint64 }

// below returns a number from 0 to n - 1.
func (s *source) below(n int) int {
	s.x = s.x*6364136223846793005 + 1442695040888963407
	return int((s.x >> 33) % uint64(n))
}

func num(n int) api.Node                     { return api.Node{Kind: api.Num, Num: n} }
func ref(name string) api.Node               { return api.Node{Kind: api.Var, Name: name} }
func node(k byte, kids ...api.Node) api.Node { return api.Node{Kind: k, Kids: kids} }
func named(k byte, name string, kids ...api.Node) api.Node {
	return api.Node{Kind: k, Name: name, Kids: kids}
}

// visible holds the names that a statement may use; constants are integers that must not change.
type visible struct {
	ints, constants, arrays, stacks []string
}

// maker generates statements; calls is the number of procedures that may be called, depth the number of locals around.
type maker struct {
	source
	calls, depth int
}

const arrayLen = 3

// Program returns an accepted program that depends on the seed only.
func Program(seed int) api.Program {
	m := maker{source: source{uint64(seed)*2654435761 + 1}}
	p := api.Program{Vars: []api.VarDecl{
		{Name: "x", Kind: api.Int}, {Name: "y", Kind: api.Int}, {Name: "z", Kind: api.Int},
		{Name: "a", Kind: api.Array, Len: arrayLen}, {Name: "s", Kind: api.Stack}, {Name: "t", Kind: api.Stack},
	}}
	params := []api.VarDecl{{Name: "p", Kind: api.Int}, {Name: "q", Kind: api.Int}, {Name: "b", Kind: api.Array, Len: arrayLen}, {Name: "u", Kind: api.Stack}}
	for i, name := range []string{"f", "g"} {
		m.calls = i
		v := visible{ints: []string{"p", "q"}, arrays: []string{"b"}, stacks: []string{"u"}}
		p.Procs = append(p.Procs, api.Proc{Name: name, Params: params, Body: m.block(v, 2)})
	}
	m.calls = 2
	p.Main = m.block(visible{ints: []string{"x", "y", "z"}, arrays: []string{"a"}, stacks: []string{"s", "t"}}, 3)
	return p
}

// State returns a state of the variables of Program.
func State(seed int) api.State {
	s := source{uint64(seed)*40503 + 7}
	list := func(n int) []int {
		var l []int
		for range n {
			l = append(l, s.below(9)-4)
		}
		return l
	}
	cells := [][]int{list(1), list(1), list(1), list(arrayLen), list(s.below(4)), list(s.below(4))}
	return api.State{Cells: cells, In: list(s.below(3)), Out: list(s.below(3))}
}

func (m *maker) pick(l []string) string { return l[m.below(len(l))] }

func (m *maker) block(v visible, nesting int) api.Node {
	n := node(api.Block)
	for range m.below(4) {
		n.Kids = append(n.Kids, m.stmt(v, nesting))
	}
	return n
}

func (m *maker) stmt(v visible, nesting int) api.Node {
	kind := m.below(20)
	if nesting == 0 {
		kind = m.below(10)
	}
	switch {
	case kind < 4:
		return m.update(v)
	case kind < 6:
		return node(api.Swap, m.place(v), m.place(v))
	case kind < 8:
		return named(api.Push+byte(m.below(2)), m.pick(v.stacks), m.place(v))
	case kind < 10:
		return node(api.Read+byte(m.below(4)), m.place(v))
	case kind < 12:
		return m.conditional(v, nesting)
	case kind < 15:
		return m.loop(v, nesting)
	case kind < 17 && m.calls > 0:
		return m.call(v)
	case kind < 18:
		name := "k" + string(rune('a'+m.depth))
		return m.localStack(name, v, nesting)
	}
	return m.local(v, nesting)
}

// place returns an integer, or an element whose index is a constant, so that the checker has no objection.
func (m *maker) place(v visible) api.Node {
	if m.below(3) > 0 {
		return ref(m.pick(v.ints))
	}
	index := num(m.below(arrayLen))
	if len(v.constants) > 0 && m.below(2) == 0 {
		index = node(api.Mod, node(api.And, ref(m.pick(v.constants)), num(7)), num(arrayLen+m.below(2)))
	}
	return named(api.Item, m.pick(v.arrays), index)
}

func (m *maker) update(v visible) api.Node {
	target := m.place(v)
	rest := v
	rest.ints, rest.arrays = without(v.ints, target.Name), without(v.arrays, target.Name)
	return node(api.Plus+byte(m.below(3)), target, m.expr(rest, 3))
}

func without(l []string, name string) []string {
	var rest []string
	for _, s := range l {
		if s != name {
			rest = append(rest, s)
		}
	}
	return rest
}

func (m *maker) expr(v visible, depth int) api.Node {
	if depth == 0 || m.below(3) == 0 {
		return m.leaf(v)
	}
	if m.below(5) == 0 {
		return node(api.Neg+byte(m.below(2)), m.expr(v, depth-1))
	}
	return node(api.Add+byte(m.below(16)), m.expr(v, depth-1), m.expr(v, depth-1))
}

func (m *maker) leaf(v visible) api.Node {
	names := append(append([]string{}, v.ints...), v.constants...)
	switch kind := m.below(8); {
	case kind < 3 && len(names) > 0:
		return ref(m.pick(names))
	case kind == 3 && len(v.arrays) > 0:
		return named(api.Item, m.pick(v.arrays), num(m.below(arrayLen)))
	case kind == 4 && m.below(2) == 0:
		return named(api.Top, m.pick(v.stacks))
	case kind == 5:
		return named(api.Size, m.pick(v.stacks))
	}
	return num(m.below(6))
}

// test returns an expression that is not constant.
func (m *maker) test(v visible) api.Node {
	return node(api.Lt+byte(m.below(4)), ref(m.pick(append(append([]string{}, v.constants...), v.ints...))), m.expr(v, 1))
}

// conditional mostly protects an integer that the test refers to, so that the exit assertion holds.
func (m *maker) conditional(v visible, nesting int) api.Node {
	test := m.test(v)
	exit := m.test(v)
	inner := v
	if len(v.ints) > 1 && m.below(4) > 0 {
		protected := m.pick(v.ints)
		test = node(api.Gt, ref(protected), num(m.below(3)))
		exit = test
		inner.ints = without(v.ints, protected)
		inner.constants = append(append([]string{}, v.constants...), protected)
	}
	return node(api.If, test, m.block(inner, nesting-1), m.block(inner, nesting-1), exit)
}

// loop returns a loop with a counter, which its body does not change, or now and then an arbitrary one.
func (m *maker) loop(v visible, nesting int) api.Node {
	if m.below(6) == 0 {
		return node(api.From, m.test(v), m.block(v, nesting-1), m.block(v, nesting-1), m.test(v))
	}
	name := "k" + string(rune('a'+m.depth))
	m.depth++
	inner := v
	inner.constants = append(append([]string{}, v.constants...), name)
	last := 1 + m.below(3)
	step := m.block(inner, nesting-1)
	step.Kids = append(step.Kids, node(api.Plus, ref(name), num(1)))
	body := node(api.From, node(api.Eq, ref(name), num(0)), m.block(inner, nesting-1), step, node(api.Eq, ref(name), num(last)))
	m.depth--
	return named(api.Local, name, num(0), node(api.Block, body), num(last))
}

func (m *maker) call(v visible) api.Node {
	if len(v.ints) < 2 {
		return m.update(v)
	}
	p := m.pick(v.ints)
	q := m.pick(without(v.ints, p))
	name := []string{"f", "g"}[m.below(m.calls)]
	return named(api.Call+byte(m.below(2)), name, ref(p), ref(q), ref(m.pick(v.arrays)), ref(m.pick(v.stacks)))
}

func (m *maker) local(v visible, nesting int) api.Node {
	name := "k" + string(rune('a'+m.depth))
	m.depth++
	inner := v
	inner.ints = append(append([]string{}, v.ints...), name)
	if m.below(3) > 0 {
		inner = v
		inner.constants = append(append([]string{}, v.constants...), name)
	}
	value := num(m.below(5))
	n := named(api.Local, name, value, m.block(inner, nesting-1), value)
	m.depth--
	return n
}

func (m *maker) localStack(name string, v visible, nesting int) api.Node {
	m.depth++
	inner := v
	inner.stacks = append(append([]string{}, v.stacks...), name)
	place := m.place(v)
	block := m.block(v, nesting-1)
	block.Kids = append([]api.Node{named(api.Push, name, place)}, block.Kids...)
	if m.below(3) > 0 {
		block.Kids = append(block.Kids, named(api.Pop, name, place))
	}
	m.depth--
	return named(api.LocalStack, name, block)
}
