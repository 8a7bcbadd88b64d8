package parser

import (
	"math"

	"backstep/api"
	"backstep/arith"
	"backstep/lexer"
)

func (p *parser) program() api.Program {
	var prog api.Program
	for p.atDecl() {
		p.room(len(prog.Vars), api.MaxVars)
		prog.Vars = append(prog.Vars, p.decl())
	}
	for p.peek().Text == "proc" {
		p.room(len(prog.Procs), api.MaxProcs)
		prog.Procs = append(prog.Procs, p.proc())
	}
	p.expect("main")
	prog.Main = p.limitedBody()
	return prog
}

func (p *parser) atDecl() bool {
	switch p.peek().Text {
	case "int", "array", "stack":
		return true
	}
	return false
}

func (p *parser) decl() api.VarDecl {
	switch p.peek().Text {
	case "int":
		p.next()
		return api.VarDecl{Name: p.name(), Kind: api.Int}
	case "stack":
		p.next()
		return api.VarDecl{Name: p.name(), Kind: api.Stack}
	}
	p.expect("array")
	v := api.VarDecl{Name: p.name(), Kind: api.Array}
	p.expect("[")
	v.Len = p.number(1, api.MaxArray)
	p.expect("]")
	return v
}

func (p *parser) proc() api.Proc {
	p.expect("proc")
	proc := api.Proc{Name: p.name()}
	p.list(func(count int) {
		if p.atDecl() {
			p.room(count, api.MaxParams)
		}
		proc.Params = append(proc.Params, p.decl())
	})
	proc.Body = p.limitedBody()
	return proc
}

// list parses a list in parentheses, whose elements are separated by commas; element is given the number of elements before it.
func (p *parser) list(element func(count int)) {
	p.expect("(")
	if p.accept(")") {
		return
	}
	for count := 0; p.err == api.OK; count++ {
		element(count)
		if !p.accept(",") {
			p.expect(")")
			return
		}
	}
}

// limitedBody parses the body of a procedure or of main.
func (p *parser) limitedBody() api.Node {
	pos := p.peek().Pos
	n := p.body()
	p.limit(n, pos)
	return n
}

func (p *parser) body() api.Node {
	n := api.Node{Kind: api.Block}
	p.expect("{")
	for p.err == api.OK && !p.accept("}") {
		n.Kids = append(n.Kids, p.stmt())
		p.expect(";")
	}
	return n
}

func (p *parser) stmt() api.Node {
	switch p.peek().Text {
	case "push":
		return p.transfer(api.Push)
	case "pop":
		return p.transfer(api.Pop)
	case "read":
		return p.single(api.Read)
	case "unread":
		return p.single(api.Unread)
	case "write":
		return p.single(api.Write)
	case "unwrite":
		return p.single(api.Unwrite)
	case "call":
		return p.call(api.Call)
	case "uncall":
		return p.call(api.Uncall)
	case "if":
		return p.branch(api.If, "else", "fi")
	case "from":
		return p.branch(api.From, "loop", "until")
	case "local":
		return p.local()
	}
	return p.assignment()
}

func (p *parser) transfer(kind byte) api.Node {
	n := p.single(kind)
	p.expect(",")
	n.Name = p.name()
	return n
}

func (p *parser) single(kind byte) api.Node {
	p.next()
	return api.Node{Kind: kind, Kids: []api.Node{p.place()}}
}

func (p *parser) call(kind byte) api.Node {
	p.next()
	n := api.Node{Kind: kind, Name: p.name()}
	p.list(func(count int) {
		if lexer.Name(p.peek().Text) {
			p.room(count, api.MaxParams)
		}
		n.Kids = append(n.Kids, api.Node{Kind: api.Var, Name: p.name()})
	})
	return n
}

// branch parses a conditional statement or a loop, which differ in their keywords only.
func (p *parser) branch(kind byte, middle, last string) api.Node {
	p.next()
	test := p.expr(1)
	first := p.body()
	p.expect(middle)
	second := p.body()
	p.expect(last)
	return api.Node{Kind: kind, Kids: []api.Node{test, first, second, p.expr(1)}}
}

func (p *parser) local() api.Node {
	p.next()
	if p.accept("stack") {
		name := p.name()
		return api.Node{Kind: api.LocalStack, Name: name, Kids: []api.Node{p.body()}}
	}
	name := p.name()
	p.expect("=")
	initial := p.expr(1)
	block := p.body()
	p.expect("delocal")
	return api.Node{Kind: api.Local, Name: name, Kids: []api.Node{initial, block, p.expr(1)}}
}

func (p *parser) assignment() api.Node {
	left := p.place()
	var kind byte
	switch p.peek().Text {
	case "+=":
		kind = api.Plus
	case "-=":
		kind = api.Minus
	case "^=":
		kind = api.Flip
	case ":=":
		kind = api.Set
	case "<=>":
		p.next()
		return api.Node{Kind: api.Swap, Kids: []api.Node{left, p.place()}}
	default:
		p.reject()
	}
	p.next()
	return api.Node{Kind: kind, Kids: []api.Node{left, p.expr(1)}}
}

func (p *parser) place() api.Node {
	name := p.name()
	if !p.accept("[") {
		return api.Node{Kind: api.Var, Name: name}
	}
	index := p.expr(1)
	p.expect("]")
	return api.Node{Kind: api.Item, Name: name, Kids: []api.Node{index}}
}

// expr parses an expression whose binary operators, outside of parentheses, have at least this level.
func (p *parser) expr(level int) api.Node {
	left := p.unary()
	for {
		op, ok := p.ops[p.peek().Text]
		if !ok || arith.Level(op) < level {
			return left
		}
		p.next()
		right := p.expr(arith.Level(op) + 1)
		left = api.Node{Kind: op, Kids: []api.Node{left, right}}
	}
}

func (p *parser) unary() api.Node {
	switch {
	case p.accept("-"):
		return api.Node{Kind: api.Neg, Kids: []api.Node{p.unary()}}
	case p.accept("!"):
		return api.Node{Kind: api.Not, Kids: []api.Node{p.unary()}}
	}
	return p.primary()
}

func (p *parser) primary() api.Node {
	t := p.peek()
	switch {
	case t.Kind == lexer.Number:
		return api.Node{Kind: api.Num, Num: p.number(0, math.MaxInt)}
	case p.accept("top"):
		return api.Node{Kind: api.Top, Name: p.stackName()}
	case p.accept("size"):
		return api.Node{Kind: api.Size, Name: p.stackName()}
	case p.accept("("):
		n := p.expr(1)
		p.expect(")")
		return n
	}
	return p.place()
}

func (p *parser) stackName() string {
	p.expect("(")
	name := p.name()
	p.expect(")")
	return name
}
