package check

import "cotter/api"

// scope is what a place in a body may touch: the variables that stand ahead of it, and the globals of the locks that are held.
type scope struct {
	vars map[string]struct{}
	held map[string]struct{}
}

// newScope is that of a body for which a lock, or none, is held from the beginning on.
func newScope(by string) scope {
	s := scope{vars: map[string]struct{}{}, held: map[string]struct{}{}}
	if by != "" {
		s.held[by] = struct{}{}
	}
	return s
}

func (s scope) hasVar(name string) bool {
	_, ok := s.vars[name]
	return ok
}

func (s scope) holds(lock string) bool {
	_, ok := s.held[lock]
	return ok
}

// body is gone through in the order of the text, with its scope as it is at each place. Withs is how many StWith are open there.
type body struct {
	scope
	unit    *unit
	rank    int
	returns bool
	withs   int
}

func (b *body) declare(name string) {
	_, taken := b.unit.decls[name]
	must(!taken && !b.hasVar(name) && len(b.vars) < api.MaxVars, api.ErrType)
	b.vars[name] = struct{}{}
}

func (b *body) block(l []int) {
	for _, i := range l {
		b.stmt(b.unit.Stmts[i])
	}
}

func (b *body) stmt(s api.Stmt) {
	switch s.Kind {
	case api.StVar:
		b.exp(s.E)
		b.declare(s.Name)
	case api.StSet:
		b.exp(s.E)
		must(b.isNumber(s.Name), api.ErrType)
	case api.StSetAt:
		b.exp(s.I)
		b.exp(s.E)
		must(b.isArray(s.Name), api.ErrType)
	case api.StCall, api.StGet, api.StPut:
		must(s.Name == "" || b.hasVar(s.Name), api.ErrType)
		b.operation(s)
	case api.StWith:
		b.with(s)
	case api.StReturn:
		must(b.returns && b.withs == 0, api.ErrType)
		b.exp(s.E)
	default:
		b.exp(s.E)
		b.block(s.Body)
		b.block(s.Else)
	}
}

// operation is what a call, a get or a put does, apart from its answer.
func (b *body) operation(s api.Stmt) {
	fun := b.unit.decls[s.Fun]
	if s.Kind == api.StCall {
		b.call(fun, s.Args)
		return
	}
	must(fun.Kind == api.DeclQueue, api.ErrType)
	if s.Kind == api.StPut {
		b.exp(s.E)
	}
}

func (b *body) call(fun api.Decl, args []int) {
	must(fun.Kind == api.DeclFunc && fun.Count == len(args) && fun.Rank < b.rank, api.ErrType)
	must(fun.By == "" || b.holds(fun.By), api.ErrType)
	for _, e := range args {
		b.exp(e)
	}
}

func (b *body) with(s api.Stmt) {
	must(b.unit.isLock(s.Name) && !b.holds(s.Name), api.ErrType)
	b.held[s.Name] = struct{}{}
	b.withs++
	b.block(s.Body)
	b.withs--
	delete(b.held, s.Name)
}

func (b *body) exp(i int) {
	e := b.unit.Exps[i]
	switch e.Kind {
	case api.ExpName:
		must(b.isNumber(e.Name), api.ErrType)
	case api.ExpIndex:
		must(b.isArray(e.Name), api.ErrType)
		b.exp(e.L)
	case api.ExpOne:
		b.exp(e.L)
	case api.ExpTwo:
		b.exp(e.L)
		b.exp(e.R)
	}
}

// isNumber and isArray tell what a place may read and write under a name: a variable, or a global whose lock is held.
func (b *body) isNumber(name string) bool {
	return b.hasVar(name) || b.isGlobal(name) && b.unit.decls[name].N == 0
}

func (b *body) isArray(name string) bool {
	return b.isGlobal(name) && b.unit.decls[name].N > 0
}

func (b *body) isGlobal(name string) bool {
	d := b.unit.decls[name]
	return d.Kind == api.DeclInt && b.holds(d.By)
}
