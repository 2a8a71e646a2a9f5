package parse

import "cotter/api"

func (p *parser) block() []int {
	p.want("{")
	p.enter()
	var l []int
	for !p.skip("}") {
		l = append(l, p.addStmt(p.stmt()))
	}
	p.leave()
	return l
}

func (p *parser) addStmt(s api.Stmt) int {
	p.module.Stmts = append(p.module.Stmts, s)
	return len(p.module.Stmts) - 1
}

func (p *parser) stmt() api.Stmt {
	switch {
	case p.skip("var"):
		s := api.Stmt{Kind: api.StVar, Name: p.name()}
		p.want("=")
		return p.value(s)
	case p.skip("if"):
		return p.choice()
	case p.skip("while"):
		s := api.Stmt{Kind: api.StWhile, E: p.condition()}
		s.Body = p.block()
		return s
	case p.skip("with"):
		s := api.Stmt{Kind: api.StWith, Name: p.name()}
		s.Body = p.block()
		return s
	case p.skip("print"):
		return p.value(api.Stmt{Kind: api.StPrint})
	case p.skip("return"):
		return p.value(api.Stmt{Kind: api.StReturn})
	case p.isCall():
		return p.call("")
	}
	return p.set()
}

// set reads a statement that begins with the name of what is set.
func (p *parser) set() api.Stmt {
	name := p.name()
	if p.is("[") {
		s := api.Stmt{Kind: api.StSetAt, Name: name, I: p.index()}
		p.want("=")
		return p.value(s)
	}
	p.want("=")
	if p.isCall() {
		return p.call(name)
	}
	return p.value(api.Stmt{Kind: api.StSet, Name: name})
}

// value reads the expression with which a statement ends.
func (p *parser) value(s api.Stmt) api.Stmt {
	s.E = p.exp()
	p.want(";")
	return s
}

func (p *parser) choice() api.Stmt {
	s := api.Stmt{Kind: api.StIf, E: p.condition()}
	s.Body = p.block()
	if p.skip("else") {
		s.Else = p.block()
	}
	return s
}

// condition is no deeper than its statement: the brackets are the statement's own.
func (p *parser) condition() int {
	p.want("(")
	e := p.exp()
	p.want(")")
	return e
}

// isCall tells a call, a get or a put from an expression: that has none of them.
func (p *parser) isCall() bool {
	return p.is("get") || p.is("put") || p.now().Kind == api.TokName && p.isAhead("(")
}

// call reads one whose answer goes to that name, or, of no name, nowhere.
func (p *parser) call(name string) api.Stmt {
	s := api.Stmt{Name: name}
	switch {
	case p.skip("get"):
		s.Kind = api.StGet
		p.want("(")
		s.Fun = p.name()
	case p.skip("put"):
		s.Kind = api.StPut
		p.want("(")
		s.Fun = p.name()
		p.want(",")
		s.E = p.exp()
	default:
		s.Kind = api.StCall
		s.Fun = p.name()
		p.want("(")
		s.Args = p.args()
	}
	p.want(")")
	p.want(";")
	return s
}

func (p *parser) args() []int {
	if p.is(")") {
		return nil
	}
	l := []int{p.exp()}
	for p.skip(",") {
		l = append(l, p.exp())
	}
	return l
}
