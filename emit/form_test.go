package emit_test

import (
	"math"
	"math/rand"
	"slices"
	"testing"

	"cotter/alloc"
	"cotter/api"
	"cotter/asm"
	"cotter/rtl"
	"cotter/tso"
)

func constant(d int, n int64) api.Op { return api.Op{Op: api.OpConst, D: d, N: n} }

func copied(d, a int) api.Op { return api.Op{Op: api.OpCopy, D: d, A: a} }

func bin(what, d, a, b int) api.Op { return api.Op{Op: api.OpBin, What: what, D: d, A: a, B: b} }

func load(d int, name string, a int) api.Op { return api.Op{Op: api.OpLoad, D: d, Name: name, A: a} }

func store(name string, a, b int) api.Op { return api.Op{Op: api.OpStore, Name: name, A: a, B: b} }

func call(d int, name string, args ...int) api.Op {
	return api.Op{Op: api.OpCall, D: d, Name: name, Args: args}
}

func get(d int, name string) api.Op { return api.Op{Op: api.OpGet, D: d, Name: name} }

func put(d int, name string, b int) api.Op { return api.Op{Op: api.OpPut, D: d, Name: name, B: b} }

func acq(name string) api.Op { return api.Op{Op: api.OpAcq, Name: name} }

func rel(name string) api.Op { return api.Op{Op: api.OpRel, Name: name} }

func jump(to int) api.Op { return api.Op{Op: api.OpJump, To: to} }

func unless(a, to int) api.Op { return api.Op{Op: api.OpIf, A: a, To: to} }

func show(a int) api.Op { return api.Op{Op: api.OpPrint, A: a} }

func back(a int) api.Op { return api.Op{Op: api.OpRet, A: a} }

func trap(n int64) api.Op { return api.Op{Op: api.OpTrap, N: n} }

var end = api.Op{Op: api.OpEnd}

// front is the module whose functions are made up, whatever the sources are.
const front = `lock l; ticket k; queue q 2; int x by l; int a[3] by l; int b[1] by l; int c[64] by k;
	int e(p) rank 0 { } int f(p, s) rank 1 { } int g(p, s, u, v) rank 2 { } int h() rank 0 { } thread t { }`

var (
	params = map[string]int{"e": 1, "f": 2, "g": 4}
	ranks  = map[string]int{"f": 1, "g": 2, "t": 10}
)

// former makes functions in the intermediate form up.
type former struct {
	*rand.Rand
	f api.Func
}

func (w *former) temp() int { return w.Intn(w.f.Temps) }

func (w *former) orNone() int { return w.Intn(w.f.Temps+1) - 1 }

func (w *former) name(l ...string) string { return l[w.Intn(len(l))] }

func (w *former) number() int64 {
	return []int64{0, 0, 0, 1, 1, 1, 2, 3, -1, 63, 64, 1 << 40, math.MinInt64, math.MaxInt64}[w.Intn(14)]
}

// op leads, if it does, most often ahead.
func (w *former) op(at, n int) api.Op {
	to := at + w.Intn(n-at)
	if w.Intn(6) == 0 {
		to = w.Intn(n)
	}
	switch w.Intn(24) {
	case 0, 1, 2, 3:
		return constant(w.temp(), w.number())
	case 4, 5, 6:
		return copied(w.temp(), w.temp())
	case 7, 8, 9, 10, 11:
		return bin(3+w.Intn(14), w.temp(), w.temp(), w.temp())
	case 12, 13:
		return unless(w.temp(), to)
	case 14:
		return jump(to)
	case 15, 16, 17:
		return show(w.temp())
	case 18:
		if w.Intn(2) == 0 {
			return get(w.orNone(), "q")
		}
		return put(w.orNone(), "q", w.temp())
	case 19:
		if w.Intn(4) == 0 {
			return api.Op{Op: api.OpAcq + w.Intn(2), Name: w.name("l", "k")}
		}
		return constant(w.temp(), w.number())
	case 20, 21:
		return w.call()
	}
	return w.touch()
}

func (w *former) touch() api.Op {
	o := load(w.temp(), "x", -1)
	if w.Intn(2) == 0 {
		o.Name, o.A = w.name("a", "b", "c", "c"), w.temp()
	}
	if w.Intn(2) == 0 {
		o.Op, o.D, o.B = api.OpStore, 0, w.temp()
	}
	return o
}

func (w *former) call() api.Op {
	name := w.name("e", "f", "g", "h")
	if ranks[name] >= ranks[w.f.Name] {
		return show(w.temp())
	}
	o := call(w.orNone(), name)
	for range params[name] {
		o.Args = append(o.Args, w.temp())
	}
	return o
}

func (w *former) body(name string) api.Func {
	w.f = api.Func{Name: name, Params: params[name], Temps: params[name] + 1 + w.Intn(9)}
	n := 2 + w.Intn(30)
	for at := range n - 1 {
		w.f.Code = append(w.f.Code, w.op(at, n))
	}
	switch last := w.Intn(8); {
	case last == 0:
		w.f.Code = append(w.f.Code, trap(int64(1+w.Intn(127))))
	case last == 1:
		w.f.Code = append(w.f.Code, jump(w.Intn(n)))
	case name == "t":
		w.f.Code = append(w.f.Code, end)
	default:
		w.f.Code = append(w.f.Code, back(w.temp()))
	}
	return w.f
}

func formed(t *testing.T, l []api.Module, seed int64) []api.Func {
	t.Helper()
	w := &former{Rand: rand.New(rand.NewSource(seed))}
	var all []api.Func
	for _, name := range []string{"e", "f", "g", "h", "t"} {
		all = append(all, w.body(name))
	}
	if e := rtl.Check(l, all); e != api.OK {
		t.Fatalf("seed %d: made up: error %d", seed, e)
	}
	return all
}

// wantSame: one thread alone shows on the machine what the functions show. It answers what.
func wantSame(t *testing.T, label string, l []api.Module, f []api.Func, a []api.Alloc) []api.Event {
	t.Helper()
	const most = 600
	want, e := rtl.Run(l, f, make([]int, most))
	if e != api.OK {
		t.Fatalf("P18.1: error %d", e)
	}
	im := linked(t, append(locksAndQueues(t, l), assembled(t, l[0], f, a))...)
	got, e := tso.Run(im, make([]int, 60*most))
	if e != api.OK {
		t.Fatalf("P5.3: error %d", e)
	}
	ended := len(want) > 0 && want[len(want)-1].Kind != api.EvPrint
	if len(got) < len(want) || ended && len(got) > len(want) || !slices.Equal(got[:len(want)], want) {
		t.Fatalf("P22.2: %s: %v; want %v: %+v, %v", label, got, want, f, a)
	}
	return want
}

// Any functions that are a module's do on the machine what they mean, wherever their temps are.
func TestForms(t *testing.T) {
	l := reads(t, front)
	kinds := map[int]int{}
	for seed := range int64(3000) {
		f := formed(t, l, seed)
		how := way{}
		if seed%3 > 0 {
			how.places = rand.New(rand.NewSource(seed))
		}
		var a []api.Alloc
		for _, one := range f {
			a = append(a, how.place(t, one))
		}
		for _, v := range wantSame(t, "made up", l, f, a) {
			kinds[v.Kind]++
		}
	}
	if kinds[api.EvPrint] < 5000 || kinds[api.EvEnd] < 500 || kinds[api.EvFault] < 500 {
		t.Errorf("too little was seen: %v", kinds)
	}
}

// places of two parameters and two temps more.
var places = []api.Alloc{
	{Where: []int{1, 2, 3, 4}},
	{Where: []int{4, 3, 2, 1}},
	{Where: []int{8, 9, 10, 11}, Slots: 4},
	{Where: []int{9, 8, 1, 2}, Slots: 2},
	{Where: []int{1, 2, 1, 2}},
	{Where: []int{1, 2, 2, 1}},
	{Where: []int{9, 8, 8, 9}, Slots: 2},
	{Where: []int{1, 8, 8, 1}, Slots: 7},
	{Where: []int{8, 1, 8, 1}, Slots: 400},
}

var numbers = []int64{0, 1, -1, 2, 3, -7, 62, 63, 64, 65, 1 << 31, -1 << 31, 1 << 62, math.MinInt64, math.MinInt64 + 1, math.MaxInt64, math.MaxInt64 - 1}

// caller lets thread t call f with two numbers, and print what that answers, and that its own temp is as it was.
func caller(a, b int64) api.Func {
	return api.Func{Name: "t", Temps: 4, Code: []api.Op{constant(0, a), constant(1, b), constant(3, 77), call(2, "f", 0, 1), show(2), show(3), end}}
}

// Each operation of two sides, wherever both and what is written are.
func TestComputes(t *testing.T) {
	l := reads(t, "int f(p, s) rank 0 { } thread t { }")
	r := rand.New(rand.NewSource(5))
	for what := api.ADD; what <= api.LE; what++ {
		for _, code := range [][]api.Op{
			{bin(what, 2, 0, 1), back(2)},
			{bin(what, 3, 0, 1), back(3)},
			{bin(what, 0, 0, 1), back(0)},
			{bin(what, 1, 0, 1), back(1)},
			{bin(what, 1, 0, 0), back(1)},
			{bin(what, 2, 1, 1), show(0), back(2)},
			{bin(what, 0, 0, 0), show(1), back(0)},
		} {
			f := api.Func{Name: "f", Params: 2, Temps: 4, Code: code}
			for _, a := range places {
				if alloc.Check(f, a) != api.OK {
					continue
				}
				for range 3 {
					c := caller(numbers[r.Intn(len(numbers))], numbers[r.Intn(len(numbers))])
					wantSame(t, "two sides", l, []api.Func{f, c}, []api.Alloc{a, way{}.place(t, c)})
				}
			}
		}
	}
}

// Elements at the edges of arrays of each size, and far beyond them.
func TestElements(t *testing.T) {
	l := reads(t, "lock l; int a[1] by l; int b[2] by l; int c[3] by l; int d[64] by l; int f(p, s) rank 0 { } thread t { }")
	sizes := map[string]int64{"a": 1, "b": 2, "c": 3, "d": 64}
	for name, size := range sizes {
		for _, at := range append(numbers, -2, size-1, size, size+1, math.MinInt64+size, math.MinInt64+size-1, math.MaxInt64-size) {
			for k, code := range [][]api.Op{
				{store(name, 0, 1), load(2, name, 0), show(2), back(2)},
				{store(name, 0, 0), load(0, name, 0), back(0)},
				{load(2, name, 0), show(2), store(name, 0, 1), load(1, name, 0), back(1)},
				{load(3, name, 0), back(1)},
			} {
				f := api.Func{Name: "f", Params: 2, Temps: 4, Code: code}
				c := caller(at, 5)
				for _, a := range places {
					if alloc.Check(f, a) != api.OK {
						continue
					}
					events := wantSame(t, "an element", l, []api.Func{f, c}, []api.Alloc{a, way{}.place(t, c)})
					if fault := events[len(events)-1].Kind == api.EvFault; fault != (at < 0 || at >= size) {
						t.Fatalf("P22.2: element %d of %d, case %d: %v", at, size, k, events)
					}
				}
			}
		}
	}
}

// A call of the deepest ranks, each with the largest frame, does not leave the stack.
func TestDeepest(t *testing.T) {
	source, name := "", "0123456789"
	for rank := range 10 {
		source += "int f" + name[rank:rank+1] + "(p, s, u, v) rank " + name[rank:rank+1] + " { } "
	}
	l := reads(t, source+"thread t { }")
	f := []api.Func{{Name: "f0", Params: 4, Temps: 400, Code: []api.Op{show(3), back(0)}}}
	for rank := 1; rank < 10; rank++ {
		f = append(f, api.Func{Name: "f" + name[rank:rank+1], Params: 4, Temps: 400, Code: []api.Op{constant(4, 1), bin(api.ADD, 3, 3, 4), call(399, "f"+name[rank-1:rank], 0, 1, 2, 3), show(0), bin(api.ADD, 0, 399, 4), back(0)}})
	}
	f = append(f, api.Func{Name: "t", Temps: 400, Code: []api.Op{constant(0, 5), constant(399, 6), call(0, "f9", 0, 0, 0, 399), show(0), show(399), end}})
	var a []api.Alloc
	for range f {
		p := api.Alloc{Slots: 400}
		for i := range 400 {
			p.Where = append(p.Where, 407-i)
		}
		a = append(a, p)
	}
	events := wantSame(t, "the deepest call", l, f, a)
	if len(events) != 13 || events[0].N != 15 || events[10].N != 14 || events[11].N != 6 || events[12].Kind != api.EvEnd {
		t.Errorf("%v", events)
	}
}

func text(t *testing.T, s string) api.Object {
	t.Helper()
	o, e := asm.Text(s)
	if e != api.OK {
		t.Fatalf("P10.2: error %d", e)
	}
	return o
}

// A function of another module, by hand, which keeps to the chapter's words and to nothing else: it has its arguments below the word to come back by, and leaves nothing else as it was.
func TestCallsOthers(t *testing.T) {
	m := read(t, "extern int f(4) rank 0; extern int g(0) rank 0; thread t { var v = 3; var w = 40; v = f(v, w, 500, v + 6000); print v; print w; w = g(); print w; f(1, 2, 3, 4); print v; }")
	spoil := "movi r1 -1\nmovi r2 -2\nmovi r3 -3\nmovi r4 -4\nmovi r5 -5\nmovi r6 -6\n"
	for i := range 40 {
		spoil += "st r7 -" + []string{"8", "16", "24", "32", "40", "48", "56", "64", "80", "160"}[i%10] + " r1\n"
	}
	by := text(t, ".global f\nf:\nld r0 r7 -8\nld r1 r7 -16\nadd r0 r1\nld r1 r7 -24\nadd r0 r1\nld r1 r7 -32\nadd r0 r1\n"+spoil+"ret\n.global g\ng:\n"+spoil+"movi r0 9\nret\n")
	for _, how := range []way{{}, {fewer: true}, {places: rand.New(rand.NewSource(3))}, {fewer: true, places: rand.New(rand.NewSource(4))}} {
		events, _ := tso.Run(linked(t, how.object(t, m), by), make([]int, 1000))
		want := []api.Event{{Kind: api.EvPrint, N: 6546}, {Kind: api.EvPrint, N: 40}, {Kind: api.EvPrint, N: 9}, {Kind: api.EvPrint, N: 6546}, {Kind: api.EvEnd}}
		if !slices.Equal(events, want) {
			t.Errorf("P22.2: %v", events)
		}
	}
}

// A thread by hand calls functions: its stack's register comes back as it was, whatever the registers and the words below held.
func TestCalledByOthers(t *testing.T) {
	m := read(t, "queue q 1; int f(a, b, c, d) rank 1 { var v = 0; if (0) { var w = 1; } put(q, a); v = g(c, d); w = w + a * 1000 + b * 100 + v; a = get(q); return w + a; } int g(a, b) rank 0 { if (0) { var z = 0; } return z + a * 10 + b; }")
	by := text(t, ".thread t\nt:\n"+
		"movi r1 -9\nst r7 -8 r1\nst r7 -48 r1\nst r7 -56 r1\nst r7 -64 r1\nst r7 -72 r1\nst r7 -80 r1\n"+
		"movi r0 1\nst r7 -16 r0\nmovi r0 2\nst r7 -24 r0\nmovi r0 3\nst r7 -32 r0\nmovi r0 4\nst r7 -40 r0\n"+
		"movi r0 -9\nmovi r2 -9\nmovi r3 -9\nmovi r4 -9\nmovi r5 -9\nmovi r6 -9\ncall f\nout r0\nout r7\nhalt\n")
	for _, how := range []way{{}, {fewer: true}, {places: rand.New(rand.NewSource(3))}, {fewer: true, places: rand.New(rand.NewSource(4))}} {
		im := linked(t, append(locksAndQueues(t, []api.Module{m}), how.object(t, m), by)...)
		events, _ := tso.Run(im, make([]int, 1000))
		want := []api.Event{{Kind: api.EvPrint, N: 1235}, {Kind: api.EvPrint, N: api.StackBase + api.StackSize}, {Kind: api.EvEnd}}
		if !slices.Equal(events, want) {
			t.Errorf("P22.2: %v", events)
		}
	}
}
