package rtl

import (
	"cotter/api"
	"cotter/world"
)

const (
	threadRank = api.MaxRank + 1
	mostTrap   = 127
)

// given is what modules give, under its name.
type given map[string]api.Decl

// areTheirs is of modules that go together. As no name comes twice, and each is one of theirs, it is enough to count.
func areTheirs(l []api.Module, f []api.Func) bool {
	g, bodies := given{}, 0
	for _, d := range world.Given(l) {
		g[d.Name] = d
		if isBody(d) {
			bodies++
		}
	}
	count := map[string]int{}
	for _, one := range f {
		count[one.Name]++
		c := checker{given: g, Func: one, own: g[one.Name]}
		if count[one.Name] > 1 || !c.mayBe() {
			return false
		}
	}
	return len(f) == bodies
}

func isBody(d api.Decl) bool {
	return d.Kind == api.DeclFunc || d.Kind == api.DeclThread
}

// checker holds a function against its own declaration, which is none where its name is nobody's, and against the others.
type checker struct {
	given
	api.Func
	own api.Decl
}

func (c *checker) mayBe() bool {
	if !isBody(c.own) || c.Params != c.own.Count || c.Params > c.Temps || c.Temps > api.MaxTemps {
		return false
	}
	if len(c.Code) < 1 || len(c.Code) > api.MaxOps || !endsAll(c.Code[len(c.Code)-1].Op) {
		return false
	}
	for _, o := range c.Code {
		if !c.mayDo(o) {
			return false
		}
	}
	return true
}

// endsAll is of operations behind which the next one never comes.
func endsAll(op int) bool {
	switch op {
	case api.OpJump, api.OpRet, api.OpEnd, api.OpTrap:
		return true
	}
	return false
}

func (c *checker) mayDo(o api.Op) bool {
	switch o.Op {
	case api.OpConst:
		return c.areTemps(o.D)
	case api.OpCopy:
		return c.areTemps(o.D, o.A)
	case api.OpBin:
		return c.areTemps(o.D, o.A, o.B) && o.What >= api.ADD && o.What <= api.LE
	case api.OpLoad:
		return c.areTemps(o.D) && c.isElement(o)
	case api.OpStore:
		return c.areTemps(o.B) && c.isElement(o)
	case api.OpCall:
		return c.mayAnswer(o.D) && c.mayCall(o)
	case api.OpGet:
		return c.mayAnswer(o.D) && c.isQueue(o.Name)
	case api.OpPut:
		return c.mayAnswer(o.D) && c.isQueue(o.Name) && c.areTemps(o.B)
	case api.OpAcq, api.OpRel:
		return c.isLock(o.Name)
	}
	return c.mayTurn(o)
}

// mayTurn is of operations that name nothing.
func (c *checker) mayTurn(o api.Op) bool {
	switch o.Op {
	case api.OpJump:
		return c.isPlace(o.To)
	case api.OpIf:
		return c.areTemps(o.A) && c.isPlace(o.To)
	case api.OpPrint:
		return c.areTemps(o.A)
	case api.OpRet:
		return c.areTemps(o.A) && c.own.Kind == api.DeclFunc
	case api.OpEnd:
		return c.own.Kind == api.DeclThread
	case api.OpTrap:
		return o.N >= 1 && o.N <= mostTrap
	}
	return false
}

func (c *checker) areTemps(l ...int) bool {
	for _, n := range l {
		if n < 0 || n >= c.Temps {
			return false
		}
	}
	return true
}

// mayAnswer is of where an answer goes: -1 is nowhere.
func (c *checker) mayAnswer(d int) bool {
	return d == -1 || c.areTemps(d)
}

func (c *checker) isPlace(to int) bool {
	return to >= 0 && to < len(c.Code)
}

func (c *checker) isElement(o api.Op) bool {
	d := c.given[o.Name]
	if d.Kind != api.DeclInt {
		return false
	}
	if d.N == 0 {
		return o.A == -1
	}
	return c.areTemps(o.A)
}

func (c *checker) mayCall(o api.Op) bool {
	d := c.given[o.Name]
	return d.Kind == api.DeclFunc && d.Rank < rankOf(c.own) && len(o.Args) == d.Count && c.areTemps(o.Args...)
}

func rankOf(d api.Decl) int {
	if d.Kind == api.DeclThread {
		return threadRank
	}
	return d.Rank
}

func (c *checker) isQueue(name string) bool {
	return c.given[name].Kind == api.DeclQueue
}

func (c *checker) isLock(name string) bool {
	kind := c.given[name].Kind
	return kind == api.DeclLock || kind == api.DeclTicket
}
