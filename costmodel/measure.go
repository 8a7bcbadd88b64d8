package costmodel

import (
	"backstep/anf"
	"backstep/api"
	"backstep/arith"
	"backstep/funeval"
)

// measure repeats an evaluation that succeeded, in order to learn the values of all temporaries. The results of the calls are taken from the call tree.
type measure struct {
	values map[string]api.Value
	calls  []funeval.Tree
}

func (m *measure) binds(l []anf.Bind) {
	for _, b := range l {
		switch {
		case b.Op == api.FIf && m.values[b.Args[0]].N != 0:
			m.binds(b.Then)
		case b.Op == api.FIf:
			m.binds(b.Else)
		case b.Op == api.FCall:
			m.values[b.To] = m.calls[0].Result
			m.calls = m.calls[1:]
		default:
			m.values[b.To] = m.operate(b)
		}
	}
}

func (m *measure) operate(b anf.Bind) api.Value {
	var x []api.Value
	for _, arg := range b.Args {
		x = append(x, m.values[arg])
	}
	switch b.Op {
	case api.FNum:
		return api.Value{N: b.Num}
	case api.FVar:
		return x[0]
	case api.FOp:
		n, _ := arith.Apply(byte(b.Num), x[0].N, x[1].N)
		return api.Value{N: n}
	case api.FCons:
		return api.Value{List: true, L: append([]int{x[0].N}, x[1].L...)}
	case api.FHead:
		return api.Value{N: x[0].L[0]}
	case api.FTail:
		return api.Value{List: true, L: x[0].L[1:]}
	case api.FNull:
		if len(x[0].L) == 0 {
			return api.Value{N: 1}
		}
		return api.Value{}
	}
	return api.Value{List: true}
}
