package link

import "cotter/api"

// sizes is how much there is of all that has a limit.
type sizes struct {
	bytes   int // of code
	words   int // of data
	symbols int
	threads int
}

func (z *sizes) grow(o api.Object) {
	z.bytes += len(o.Code)
	z.words += len(o.Data)
	z.symbols += len(o.Syms)
	for _, s := range o.Syms {
		if s.Kind == api.SymThread {
			z.threads++
		}
	}
}

func (z sizes) fit() bool {
	if z.bytes > api.MaxCode || z.words > api.MaxData || z.symbols > api.MaxSyms {
		return false
	}
	return z.threads >= 1 && z.threads <= api.MaxThreads
}

// part is an object; its sizes are those of what stands ahead of it.
type part struct {
	sizes
	api.Object
}

// moved is a symbol of the part as it is in the whole.
func (p part) moved(s api.Sym) api.Sym {
	if s.Kind == api.SymData {
		s.At += p.words
	} else {
		s.At += p.bytes
	}
	return s
}

// layout is where everything comes to stand; its sizes are those of all parts.
type layout struct {
	sizes
	parts []part
	found map[string]api.Sym // as they are in the whole
}

// lay tells what is wrong with names: all of them are known ahead of the first that is asked for.
func (y *layout) lay(l []api.Object) api.Errno {
	for _, o := range l {
		if !y.add(o) {
			return api.ErrDuplicate
		}
	}
	for _, o := range l {
		if e := y.ask(o.Relocs); e != api.OK {
			return e
		}
	}
	return api.OK
}

// add tells whether the object's names are new.
func (y *layout) add(o api.Object) bool {
	p := part{sizes: y.sizes, Object: o}
	for _, s := range o.Syms {
		if _, twice := y.found[s.Name]; twice {
			return false
		}
		y.found[s.Name] = p.moved(s)
	}
	y.parts = append(y.parts, p)
	y.grow(o)
	return true
}

func (y *layout) ask(l []api.Reloc) api.Errno {
	for _, r := range l {
		s, ok := y.found[r.Name]
		if !ok {
			return api.ErrUndefined
		}
		if (r.Kind == api.RelAddr) != (s.Kind == api.SymData) {
			return api.ErrType
		}
	}
	return api.OK
}
