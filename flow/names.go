package flow

import "cotter/api"

const threadRank = api.MaxRank + 1

// Names are declarations, each under its name: what is said of a function that hangs on names is held against them.
type Names map[string]api.Decl

// NamesOf is of declarations whose names are unlike.
func NamesOf(l []api.Decl) Names {
	names := Names{}
	for _, d := range l {
		names[d.Name] = d
	}
	return names
}

// IsBody tells whether a declaration is of what becomes a function in the intermediate form.
func IsBody(d api.Decl) bool {
	return d.Kind == api.DeclFunc || d.Kind == api.DeclThread
}

// MayBe tells whether a function may be that of its name, and whether all that it names is there, and such as it must be.
func (names Names) MayBe(f api.Func) bool {
	own := names[f.Name]
	if !IsBody(own) || f.Params != own.Count || !MayBe(f) {
		return false
	}
	for _, o := range f.Code {
		if !names.mayDo(own, o) {
			return false
		}
	}
	return true
}

// mayDo is of what hangs on names alone.
func (names Names) mayDo(own api.Decl, o api.Op) bool {
	d := names[o.Name]
	switch o.Op {
	case api.OpLoad, api.OpStore:
		return d.Kind == api.DeclInt && (d.N == 0) == (o.A == -1)
	case api.OpCall:
		return d.Kind == api.DeclFunc && d.Rank < rankOf(own) && len(o.Args) == d.Count
	case api.OpGet, api.OpPut:
		return d.Kind == api.DeclQueue
	case api.OpAcq, api.OpRel:
		return d.Kind == api.DeclLock || d.Kind == api.DeclTicket
	case api.OpRet:
		return own.Kind == api.DeclFunc
	case api.OpEnd:
		return own.Kind == api.DeclThread
	}
	return true
}

func rankOf(d api.Decl) int {
	if d.Kind == api.DeclThread {
		return threadRank
	}
	return d.Rank
}
