package parser

import (
	"math"

	"backstep/api"
	"backstep/lexer"
)

func (p *parser) program() api.Program {
	var prog api.Program
	for p.atDecl() {
		p.room(len(prog.Vars), api.MaxVars)
		prog.Vars = append(prog.Vars, p.decl())
	}
	for p.Peek().Text == "proc" {
		p.room(len(prog.Procs), api.MaxProcs)
		prog.Procs = append(prog.Procs, p.proc())
	}
	p.Expect("main")
	prog.Main = p.limitedBody()
	return prog
}

func (p *parser) atDecl() bool {
	switch p.Peek().Text {
	case "int", "array", "stack":
		return true
	}
	return false
}

func (p *parser) decl() api.VarDecl {
	switch p.Peek().Text {
	case "int":
		p.Next()
		return api.VarDecl{Name: p.Name(), Kind: api.Int}
	case "stack":
		p.Next()
		return api.VarDecl{Name: p.Name(), Kind: api.Stack}
	}
	p.Expect("array")
	v := api.VarDecl{Name: p.Name(), Kind: api.Array}
	p.Expect("[")
	v.Len = p.Number(1, api.MaxArray)
	p.Expect("]")
	return v
}

func (p *parser) proc() api.Proc {
	p.Expect("proc")
	proc := api.Proc{Name: p.Name()}
	p.List(func(count int) {
		if p.atDecl() {
			p.room(count, api.MaxParams)
		}
		proc.Params = append(proc.Params, p.decl())
	})
	proc.Body = p.limitedBody()
	return proc
}

// limitedBody parses the body of a procedure or of main.
func (p *parser) limitedBody() api.Node {
	pos := p.Peek().Pos
	n := p.body()
	p.limit(n, pos)
	return n
}

func (p *parser) body() api.Node {
	n := api.Node{Kind: api.Block}
	p.Expect("{")
	for p.Err == api.OK && !p.Accept("}") {
		n.Kids = append(n.Kids, p.stmt())
		p.Expect(";")
	}
	return n
}

func (p *parser) stmt() api.Node {
	switch p.Peek().Text {
	case "push":
		return p.transfer(api.Push)
	case "pop":
		return p.transfer(api.Pop)
	case "read":
		return p.single(api.Read)
	case "unread":
		return p.single(api.Unread)
	case "write":
		return p.single(api.Write)
	case "unwrite":
		return p.single(api.Unwrite)
	case "call":
		return p.call(api.Call)
	case "uncall":
		return p.call(api.Uncall)
	case "if":
		return p.branch(api.If, "else", "fi")
	case "from":
		return p.branch(api.From, "loop", "until")
	case "local":
		return p.local()
	}
	return p.assignment()
}

func (p *parser) transfer(kind byte) api.Node {
	n := p.single(kind)
	p.Expect(",")
	n.Name = p.Name()
	return n
}

func (p *parser) single(kind byte) api.Node {
	p.Next()
	return api.Node{Kind: kind, Kids: []api.Node{p.place()}}
}

func (p *parser) call(kind byte) api.Node {
	p.Next()
	n := api.Node{Kind: kind, Name: p.Name()}
	p.List(func(count int) {
		if lexer.Name(p.Peek().Text) {
			p.room(count, api.MaxParams)
		}
		n.Kids = append(n.Kids, api.Node{Kind: api.Var, Name: p.Name()})
	})
	return n
}

// branch parses a conditional statement or a loop, which differ in their keywords only.
func (p *parser) branch(kind byte, middle, last string) api.Node {
	p.Next()
	test := p.expr()
	first := p.body()
	p.Expect(middle)
	second := p.body()
	p.Expect(last)
	return api.Node{Kind: kind, Kids: []api.Node{test, first, second, p.expr()}}
}

func (p *parser) local() api.Node {
	p.Next()
	if p.Accept("stack") {
		name := p.Name()
		return api.Node{Kind: api.LocalStack, Name: name, Kids: []api.Node{p.body()}}
	}
	name := p.Name()
	p.Expect("=")
	initial := p.expr()
	block := p.body()
	p.Expect("delocal")
	return api.Node{Kind: api.Local, Name: name, Kids: []api.Node{initial, block, p.expr()}}
}

func (p *parser) assignment() api.Node {
	left := p.place()
	var kind byte
	switch p.Peek().Text {
	case "+=":
		kind = api.Plus
	case "-=":
		kind = api.Minus
	case "^=":
		kind = api.Flip
	case ":=":
		kind = api.Set
	case "<=>":
		p.Next()
		return api.Node{Kind: api.Swap, Kids: []api.Node{left, p.place()}}
	default:
		p.Reject()
	}
	p.Next()
	return api.Node{Kind: kind, Kids: []api.Node{left, p.expr()}}
}

func (p *parser) place() api.Node {
	name := p.Name()
	if !p.Accept("[") {
		return api.Node{Kind: api.Var, Name: name}
	}
	index := p.expr()
	p.Expect("]")
	return api.Node{Kind: api.Item, Name: name, Kids: []api.Node{index}}
}

func (p *parser) expr() api.Node {
	return p.Binary(1, p.unary, func(op byte, left, right api.Node) api.Node {
		return api.Node{Kind: op, Kids: []api.Node{left, right}}
	})
}

func (p *parser) unary() api.Node {
	switch {
	case p.Accept("-"):
		return api.Node{Kind: api.Neg, Kids: []api.Node{p.unary()}}
	case p.Accept("!"):
		return api.Node{Kind: api.Not, Kids: []api.Node{p.unary()}}
	}
	return p.primary()
}

func (p *parser) primary() api.Node {
	t := p.Peek()
	switch {
	case t.Kind == lexer.Number:
		return api.Node{Kind: api.Num, Num: p.Number(0, math.MaxInt)}
	case p.Accept("top"):
		return api.Node{Kind: api.Top, Name: p.stackName()}
	case p.Accept("size"):
		return api.Node{Kind: api.Size, Name: p.stackName()}
	case p.Accept("("):
		n := p.expr()
		p.Expect(")")
		return n
	}
	return p.place()
}

func (p *parser) stackName() string {
	p.Expect("(")
	name := p.Name()
	p.Expect(")")
	return name
}
