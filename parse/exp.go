package parse

import "cotter/api"

// operators are the binary ones with their levels: the greater one binds closer.
var operators = [...]struct {
	sign  string
	level int
}{
	{"||", 1},
	{"&&", 2},
	{"|", 3},
	{"^", 4},
	{"&", 5},
	{"==", 6}, {"!=", 6},
	{"<", 7}, {"<=", 7}, {">", 7}, {">=", 7},
	{"<<", 8}, {">>", 8},
	{"+", 9}, {"-", 9},
	{"*", 10}, {"/", 10}, {"%", 10},
}

// The levels of all exps, and of what is no binary operator's.
const (
	loosest = 1
	closest = 11
)

// levelOf is 0 of what is no binary operator.
func levelOf(sign string) int {
	for _, o := range operators {
		if o.sign == sign {
			return o.level
		}
	}
	return 0
}

// exp reads an expression, and answers its number, as all that read one do.
func (p *parser) exp() int {
	return p.binary(loosest)
}

// binary goes on while operators bind at least as close as that level. What stands right of one binds closer, so that those of one level go from the left.
func (p *parser) binary(least int) int {
	l := p.unary()
	for levelOf(p.now().Text) >= least {
		sign := p.take(api.TokSign).Text
		r := p.binary(levelOf(sign) + 1)
		l = p.addExp(api.Exp{Kind: api.ExpTwo, Op: sign, L: l, R: r})
	}
	return l
}

func (p *parser) unary() int {
	switch {
	case p.is("-") || p.is("!"):
		sign := p.take(api.TokSign).Text
		l := p.inside(p.unary)
		return p.addExp(api.Exp{Kind: api.ExpOne, Op: sign, L: l})
	case p.skip("("):
		l := p.inside(p.exp)
		p.want(")")
		return l
	case p.now().Kind == api.TokNum:
		return p.addExp(api.Exp{Kind: api.ExpNum, N: p.take(api.TokNum).N})
	}
	return p.nameOrIndex()
}

func (p *parser) nameOrIndex() int {
	name := p.name()
	if !p.is("[") {
		return p.addExp(api.Exp{Kind: api.ExpName, Name: name})
	}
	return p.addExp(api.Exp{Kind: api.ExpIndex, Name: name, L: p.index()})
}

func (p *parser) index() int {
	p.want("[")
	l := p.inside(p.exp)
	p.want("]")
	return l
}

func (p *parser) addExp(e api.Exp) int {
	p.module.Exps = append(p.module.Exps, e)
	return len(p.module.Exps) - 1
}
