package rtl

import (
	"cotter/api"
	"cotter/flow"
	"cotter/world"
)

const threadRank = api.MaxRank + 1

// given is what modules give, under its name.
type given map[string]api.Decl

// areTheirs is of modules that go together. As no name comes twice, and each is one of theirs, it is enough to count.
func areTheirs(l []api.Module, f []api.Func) bool {
	g, bodies := given{}, 0
	for _, d := range world.Given(l) {
		g[d.Name] = d
		if isBody(d) {
			bodies++
		}
	}
	count := map[string]int{}
	for _, one := range f {
		count[one.Name]++
		c := checker{given: g, Func: one, own: g[one.Name]}
		if count[one.Name] > 1 || !c.mayBe() {
			return false
		}
	}
	return len(f) == bodies
}

func isBody(d api.Decl) bool {
	return d.Kind == api.DeclFunc || d.Kind == api.DeclThread
}

// checker holds a function against its own declaration, which is none where its name is nobody's, and against the others.
type checker struct {
	given
	api.Func
	own api.Decl
}

func (c *checker) mayBe() bool {
	if !isBody(c.own) || c.Params != c.own.Count || !flow.MayBe(c.Func) {
		return false
	}
	for _, o := range c.Code {
		if !c.mayName(o) {
			return false
		}
	}
	return true
}

// mayName is of what hangs on names alone.
func (c *checker) mayName(o api.Op) bool {
	switch o.Op {
	case api.OpLoad, api.OpStore:
		return c.isElement(o)
	case api.OpCall:
		return c.mayCall(o)
	case api.OpGet, api.OpPut:
		return c.isQueue(o.Name)
	case api.OpAcq, api.OpRel:
		return c.isLock(o.Name)
	case api.OpRet:
		return c.own.Kind == api.DeclFunc
	case api.OpEnd:
		return c.own.Kind == api.DeclThread
	}
	return true
}

func (c *checker) isElement(o api.Op) bool {
	d := c.given[o.Name]
	return d.Kind == api.DeclInt && (d.N == 0) == (o.A == -1)
}

func (c *checker) mayCall(o api.Op) bool {
	d := c.given[o.Name]
	return d.Kind == api.DeclFunc && d.Rank < rankOf(c.own) && len(o.Args) == d.Count
}

func rankOf(d api.Decl) int {
	if d.Kind == api.DeclThread {
		return threadRank
	}
	return d.Rank
}

func (c *checker) isQueue(name string) bool {
	return c.given[name].Kind == api.DeclQueue
}

func (c *checker) isLock(name string) bool {
	kind := c.given[name].Kind
	return kind == api.DeclLock || kind == api.DeclTicket
}
