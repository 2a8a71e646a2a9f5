package opt_test

import (
	"math"
	"math/rand"
	"testing"

	"cotter/api"
	"cotter/parse"
	"cotter/rtl"
)

func reads(t *testing.T, sources ...string) []api.Module {
	t.Helper()
	var l []api.Module
	for _, s := range sources {
		m, e := parse.Parse(s)
		if e != api.OK {
			t.Fatalf("%.300q: error %d", s, e)
		}
		l = append(l, m)
	}
	return l
}

func constant(d int, n int64) api.Op { return api.Op{Op: api.OpConst, D: d, N: n} }

func copied(d, a int) api.Op { return api.Op{Op: api.OpCopy, D: d, A: a} }

func bin(what, d, a, b int) api.Op { return api.Op{Op: api.OpBin, What: what, D: d, A: a, B: b} }

func load(d int, name string, a int) api.Op { return api.Op{Op: api.OpLoad, D: d, Name: name, A: a} }

func store(name string, a, b int) api.Op { return api.Op{Op: api.OpStore, Name: name, A: a, B: b} }

func call(d int, name string, args ...int) api.Op {
	return api.Op{Op: api.OpCall, D: d, Name: name, Args: args}
}

func get(d int, name string) api.Op { return api.Op{Op: api.OpGet, D: d, Name: name} }

func put(d int, name string, b int) api.Op { return api.Op{Op: api.OpPut, D: d, Name: name, B: b} }

func acq(name string) api.Op { return api.Op{Op: api.OpAcq, Name: name} }

func rel(name string) api.Op { return api.Op{Op: api.OpRel, Name: name} }

func jump(to int) api.Op { return api.Op{Op: api.OpJump, To: to} }

func unless(a, to int) api.Op { return api.Op{Op: api.OpIf, A: a, To: to} }

func show(a int) api.Op { return api.Op{Op: api.OpPrint, A: a} }

func back(a int) api.Op { return api.Op{Op: api.OpRet, A: a} }

func trap(n int64) api.Op { return api.Op{Op: api.OpTrap, N: n} }

var end = api.Op{Op: api.OpEnd}

// front are the modules whose functions are made up: g and h are called while l is held.
const front = `lock l; lock k; queue q 2; int x by l; int y by l; int a[3] by l; int b[1] by l;
	int e(p) rank 0 { } int f(p, s) rank 1 { } int g() with l rank 0 { } int h(p, s, u) with l rank 1 { } thread t { } thread v { }`

// author makes functions of those modules up, whose threads touch globals only while they hold l.
type author struct {
	*rand.Rand
	f api.Func
}

func (w *author) temp() int { return w.Intn(w.f.Temps) }

func (w *author) orNone() int { return w.Intn(w.f.Temps+1) - 1 }

func (w *author) name(l ...string) string { return l[w.Intn(len(l))] }

func (w *author) number() int64 {
	return []int64{0, 0, 0, 1, 1, 2, 3, -1, 63, 1 << 40, math.MinInt64, math.MaxInt64}[w.Intn(12)]
}

// op leads, if it does, to some place of a stretch.
func (w *author) op(from, to int, locked bool) api.Op {
	switch w.Intn(24) {
	case 0, 1, 2, 3, 4:
		return constant(w.temp(), w.number())
	case 5, 6, 7:
		return copied(w.temp(), w.temp())
	case 8, 9, 10, 11, 12:
		return bin(3+w.Intn(14), w.temp(), w.temp(), w.temp())
	case 13, 14:
		return unless(w.temp(), from+w.Intn(to-from+1))
	case 15:
		return jump(from + w.Intn(to-from+1))
	case 16, 17, 18:
		return show(w.temp())
	case 19:
		if w.Intn(2) == 0 {
			return get(w.orNone(), "q")
		}
		return put(w.orNone(), "q", w.temp())
	case 20:
		return w.call(locked)
	}
	if locked {
		return w.touch()
	}
	return constant(w.temp(), w.number())
}

func (w *author) touch() api.Op {
	o := api.Op{Op: api.OpLoad, D: w.temp(), Name: w.name("x", "y"), A: -1}
	if w.Intn(3) == 0 {
		o.Name, o.A = w.name("a", "b"), w.temp()
	}
	if w.Intn(2) == 0 {
		o.Op, o.D, o.B = api.OpStore, 0, w.temp()
	}
	return o
}

func (w *author) call(locked bool) api.Op {
	name := w.name("e", "f")
	if locked {
		name = w.name("e", "f", "g", "h")
	}
	if ranks[name] >= ranks[w.f.Name] {
		return show(w.temp())
	}
	o := call(w.orNone(), name)
	for range params[name] {
		o.Args = append(o.Args, w.temp())
	}
	return o
}

var (
	params = map[string]int{"e": 1, "f": 2, "h": 3}
	ranks  = map[string]int{"f": 1, "h": 1, "t": 10, "v": 10}
)

// stretch is operations of which none leads out of them but to what comes right behind.
func (w *author) stretch(locked bool) {
	from := len(w.f.Code)
	to := from + 1 + w.Intn(14)
	for range to - from {
		w.f.Code = append(w.f.Code, w.op(from, to, locked))
	}
}

func (w *author) body(name string) api.Func {
	w.f = api.Func{Name: name, Params: params[name], Temps: params[name] + 1 + w.Intn(5)}
	isThread := name == "t" || name == "v"
	for range 1 + w.Intn(3) {
		if isThread && w.Intn(2) == 0 {
			w.f.Code = append(w.f.Code, acq("l"))
			w.stretch(true)
			w.f.Code = append(w.f.Code, rel("l"))
		}
		w.stretch(name == "g" || name == "h")
		if isThread && w.Intn(6) == 0 {
			w.f.Code = append(w.f.Code, acq("k"))
		}
	}
	switch {
	case w.Intn(8) == 0:
		w.f.Code = append(w.f.Code, trap(int64(1+w.Intn(127))))
	case w.Intn(8) == 0 && !isThread:
		w.f.Code = append(w.f.Code, jump(0))
	case isThread:
		w.f.Code = append(w.f.Code, end)
	default:
		w.f.Code = append(w.f.Code, back(w.temp()))
	}
	return w.f
}

// madeUp are functions that are those modules'.
func madeUp(t *testing.T, l []api.Module, seed int64) []api.Func {
	t.Helper()
	w := &author{Rand: rand.New(rand.NewSource(seed))}
	var all []api.Func
	for _, name := range []string{"t", "e", "v", "f", "h", "g"} {
		all = append(all, w.body(name))
	}
	if e := rtl.Check(l, all); e != api.OK {
		t.Fatalf("seed %d: made up: error %d", seed, e)
	}
	return all
}

// fewer are functions with Opt of each in its place.
func fewer(t *testing.T, l []api.Module, all []api.Func) []api.Func {
	t.Helper()
	var out []api.Func
	for _, f := range all {
		out = append(out, made(t, f))
	}
	if e := rtl.Check(l, out); e != api.OK {
		t.Fatalf("P20.2: they are the modules' no more: error %d: %v", e, out)
	}
	return out
}
