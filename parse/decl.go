package parse

import "cotter/api"

func (p *parser) decl() api.Decl {
	if p.skip("thread") {
		d := api.Decl{Kind: api.DeclThread, Name: p.name()}
		d.Body = p.block()
		return d
	}
	extern := p.skip("extern")
	if p.skip("int") {
		return p.number(api.Decl{Name: p.name(), Extern: extern})
	}
	kind := p.object(extern)
	d := api.Decl{Kind: kind, Name: p.name(), Extern: extern}
	if d.Kind == api.DeclQueue {
		d.N = p.size()
	}
	p.want(";")
	return d
}

// object is a lock's or a queue's kind. To other modules a ticket is a lock like any other one.
func (p *parser) object(extern bool) int {
	switch {
	case p.skip("queue"):
		return api.DeclQueue
	case p.skip("ticket"):
		if !extern {
			return api.DeclTicket
		}
	default:
		p.want("lock")
	}
	return api.DeclLock
}

// number reads on what begins with int and a name.
func (p *parser) number(d api.Decl) api.Decl {
	if p.skip("(") {
		d.Kind = api.DeclFunc
		return p.function(d)
	}
	d.Kind = api.DeclInt
	if p.skip("[") {
		d.N = p.size()
		if d.N == 0 {
			panic(api.ErrSyntax)
		}
		p.want("]")
	}
	p.want("by")
	d.By = p.name()
	p.want(";")
	return d
}

func (p *parser) function(d api.Decl) api.Decl {
	if d.Extern {
		d.Count = p.size()
	} else {
		d.Params = p.params()
		d.Count = len(d.Params)
	}
	p.want(")")
	if p.skip("with") {
		d.By = p.name()
	}
	p.want("rank")
	d.Rank = p.size()
	if d.Extern {
		p.want(";")
	} else {
		d.Body = p.block()
	}
	return d
}

func (p *parser) params() []string {
	if p.is(")") {
		return nil
	}
	l := []string{p.name()}
	for p.skip(",") {
		l = append(l, p.name())
	}
	return l
}
