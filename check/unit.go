package check

import "cotter/api"

// threadRank is above that of any function, so that a thread may call all of them.
const threadRank = api.MaxRank + 1

// unit is a module with its declarations by their names.
type unit struct {
	api.Module
	decls map[string]api.Decl
}

// holds throws the first error of a module that was read.
func holds(m api.Module) {
	bodies := 0
	for _, d := range m.Decls {
		if hasBody(d) {
			bodies++
		}
	}
	must(bodies <= api.MaxFuncs && len(m.Decls)-bodies <= api.MaxGlobals, api.ErrLarge)
	u := &unit{Module: m, decls: byName(m.Decls)}
	for _, d := range m.Decls {
		u.decl(d)
	}
}

// hasBody counts functions of other modules as well, whose bodies are empty here.
func hasBody(d api.Decl) bool {
	return d.Kind == api.DeclFunc || d.Kind == api.DeclThread
}

func (u *unit) decl(d api.Decl) {
	must(d.By == "" || u.isLock(d.By), api.ErrType)
	switch d.Kind {
	case api.DeclQueue:
		must(d.N >= 1 && d.N <= api.MaxCap, api.ErrType)
	case api.DeclInt:
		must(d.N <= api.MaxArray, api.ErrType)
	case api.DeclFunc:
		must(d.Count <= api.MaxParams && d.Rank <= api.MaxRank, api.ErrType)
		u.body(d, d.Rank)
	case api.DeclThread:
		u.body(d, threadRank)
	}
}

func (u *unit) isLock(name string) bool {
	kind := u.decls[name].Kind
	return kind == api.DeclLock || kind == api.DeclTicket
}

func (u *unit) body(d api.Decl, rank int) {
	b := &body{scope: newScope(d.By), unit: u, rank: rank, returns: d.Kind == api.DeclFunc}
	for _, name := range d.Params {
		b.declare(name)
	}
	b.block(d.Body)
}
