package driver

import (
	"cotter/alloc"
	"cotter/api"
	"cotter/asm"
	"cotter/emit"
	"cotter/lib"
	"cotter/lower"
	"cotter/opt"
)

// unit is one module on its way to an object: no other one is asked for anything.
type unit struct {
	api.Module
	funcs  []api.Func
	places []api.Alloc
	items  []api.Item
	object api.Object
}

// compile: lower asks whether the module holds; what is made of one that does can be wrong in nothing but its size.
func (u *unit) compile() api.Errno {
	return first(u.lower, u.fewer, u.place, u.emit, u.assemble)
}

func (u *unit) lower() (e api.Errno) {
	u.funcs, e = lower.Lower(u.Module)
	return e
}

// fewer makes functions with fewer operations of them.
func (u *unit) fewer() (e api.Errno) {
	for i, f := range u.funcs {
		if u.funcs[i], e = opt.Opt(f); e != api.OK {
			return e
		}
	}
	return api.OK
}

func (u *unit) place() api.Errno {
	for _, f := range u.funcs {
		a, e := alloc.Alloc(f)
		if e != api.OK {
			return e
		}
		u.places = append(u.places, a)
	}
	return api.OK
}

func (u *unit) emit() (e api.Errno) {
	u.items, e = emit.Emit(u.Module, u.funcs, u.places)
	return e
}

func (u *unit) assemble() (e api.Errno) {
	u.object, e = asm.Assemble(u.items)
	return e
}

// isShared tells whether a declaration is a lock or a queue that the module gives: an object of its own becomes of it.
func isShared(d api.Decl) bool {
	return !d.Extern && d.Kind >= api.DeclLock && d.Kind <= api.DeclQueue
}

func shared(d api.Decl) (api.Object, api.Errno) {
	items, e := sharedItems(d)
	if e != api.OK {
		return api.Object{}, e
	}
	return asm.Assemble(items)
}

func sharedItems(d api.Decl) ([]api.Item, api.Errno) {
	switch d.Kind {
	case api.DeclLock:
		return lib.Spin(d.Name)
	case api.DeclTicket:
		return lib.Ticket(d.Name)
	}
	return lib.Queue(d.Name, d.N)
}
