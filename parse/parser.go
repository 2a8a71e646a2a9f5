package parse

import "cotter/api"

// parser reads a module. Depth is that of where it stands.
type parser struct {
	tokens
	module api.Module
	depth  int
}

func (p *parser) enter() {
	p.depth++
	if p.depth > api.MaxNest {
		panic(api.ErrSyntax)
	}
}

func (p *parser) leave() {
	p.depth--
}

// inside reads what is one deeper.
func (p *parser) inside(read func() int) int {
	p.enter()
	n := read()
	p.leave()
	return n
}

func (p *parser) all() {
	for p.now().Kind != api.TokEnd {
		p.module.Decls = append(p.module.Decls, p.decl())
	}
}
