package emit_test

import (
	"math/rand"
	"testing"

	"cotter/alloc"
	"cotter/api"
	"cotter/asm"
	"cotter/emit"
	"cotter/image"
	"cotter/lib"
	"cotter/link"
	"cotter/lower"
	"cotter/opt"
	"cotter/parse"
)

// way says how modules are compiled: with Opt, and with places at random.
type way struct {
	fewer  bool
	places *rand.Rand
}

// functions are a module's, in the intermediate form, and their places.
func (w way) functions(t *testing.T, m api.Module) ([]api.Func, []api.Alloc) {
	t.Helper()
	f, e := lower.Lower(m)
	if e != api.OK {
		t.Fatalf("P19.1: error %d", e)
	}
	var a []api.Alloc
	for i := range f {
		if w.fewer {
			f[i], _ = opt.Opt(f[i])
		}
		a = append(a, w.place(t, f[i]))
	}
	return f, a
}

func (w way) place(t *testing.T, f api.Func) api.Alloc {
	t.Helper()
	a, e := alloc.Alloc(f)
	if e != api.OK {
		t.Fatalf("P21.2: error %d", e)
	}
	if w.places != nil {
		return scattered(w.places, f, a)
	}
	return a
}

// scattered are places at random that are right: from some that are, temps go one by one to where they may be, most often to where another one is.
func scattered(r *rand.Rand, f api.Func, a api.Alloc) api.Alloc {
	if r.Intn(2) == 0 {
		a = api.Alloc{Where: r.Perm(f.Temps), Slots: f.Temps}
		for i := range a.Where {
			a.Where[i] += 8
		}
	}
	a.Slots = min(400, a.Slots+r.Intn(4))
	for range 3 * f.Temps {
		one := r.Intn(f.Temps)
		was := a.Where[one]
		a.Where[one] = 1 + r.Intn(4)
		if a.Slots > 0 && r.Intn(3) == 0 {
			a.Where[one] = 8 + r.Intn(a.Slots)
		}
		if r.Intn(2) == 0 {
			a.Where[one] = a.Where[r.Intn(f.Temps)]
		}
		if alloc.Check(f, a) != api.OK {
			a.Where[one] = was
		}
	}
	return a
}

func (w way) object(t *testing.T, m api.Module) api.Object {
	t.Helper()
	f, a := w.functions(t, m)
	return assembled(t, m, f, a)
}

func assembled(t *testing.T, m api.Module, f []api.Func, a []api.Alloc) api.Object {
	t.Helper()
	items, e := emit.Emit(m, f, a)
	if e != api.OK {
		t.Fatalf("P22.1: error %d: %+v, %+v", e, f, a)
	}
	o, e := asm.Assemble(items)
	if e != api.OK {
		t.Fatalf("P22.1: Assemble: error %d: %+v", e, items)
	}
	return o
}

// locksAndQueues are an object for each that the modules give.
func locksAndQueues(t *testing.T, l []api.Module) []api.Object {
	t.Helper()
	var all []api.Object
	for _, m := range l {
		for _, d := range m.Decls {
			var items []api.Item
			switch {
			case d.Extern:
			case d.Kind == api.DeclLock:
				items, _ = lib.Spin(d.Name)
			case d.Kind == api.DeclTicket:
				items, _ = lib.Ticket(d.Name)
			case d.Kind == api.DeclQueue:
				items, _ = lib.Queue(d.Name, d.N)
			}
			if len(items) == 0 {
				continue
			}
			o, e := asm.Assemble(items)
			if e != api.OK {
				t.Fatalf("P12.1: error %d", e)
			}
			all = append(all, o)
		}
	}
	return all
}

// build links modules, each compiled alone, in any order.
func (w way) build(t *testing.T, r *rand.Rand, l []api.Module) api.Image {
	t.Helper()
	all := locksAndQueues(t, l)
	for _, m := range l {
		all = append(all, w.object(t, m))
	}
	if r != nil {
		r.Shuffle(len(all), func(i, j int) { all[i], all[j] = all[j], all[i] })
	}
	return linked(t, all...)
}

func linked(t *testing.T, all ...api.Object) api.Image {
	t.Helper()
	im, e := link.Link(all...)
	if e != api.OK {
		t.Fatalf("P7.1: error %d", e)
	}
	if e = image.Check(im); e != api.OK {
		t.Fatalf("P22.2: image.Check: error %d", e)
	}
	return im
}

func printed(t *testing.T, m api.Module) string {
	t.Helper()
	s, e := parse.Print(m)
	if e != api.OK {
		t.Fatalf("P15.2: error %d", e)
	}
	return s
}
