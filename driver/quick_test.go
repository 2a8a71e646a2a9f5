package driver_test

import (
	"slices"
	"strings"
	"testing"

	"cotter/api"
	"cotter/atom"
	"cotter/driver"
	"cotter/src"
	"cotter/tso"
	"cotter/word"
)

// mostFor is how many steps come for each 1 of the weights of the sources' operations, mostForCall how many more for each call of a lock's or queue's function; mostWeight is where a walker stops at the latest.
const (
	mostFor     = 100
	mostForCall = 200
	mostWeight  = 700
)

// body is a flat body with its module's expressions.
type body struct {
	api.Body
	exps []api.Exp
}

// sight is an event, and what it may cost till then.
type sight struct {
	api.Event
	cost int
}

// walker runs one thread of flat bodies alone, and weighs what it does.
type walker struct {
	bodies  map[string]body
	globals map[string][]int64
	atoms   []api.Atom
	thread  int
	weight  int
	calls   int
	sights  []sight
}

// stop is what a walker throws when its thread goes on no more.
type stop struct{}

func newWalker(t *testing.T, l []api.Module, thread int) *walker {
	t.Helper()
	w := &walker{bodies: map[string]body{}, globals: map[string][]int64{}, thread: thread}
	for _, m := range l {
		flat, e := src.Flatten(m)
		if e != api.OK {
			t.Fatalf("P17.1: error %d", e)
		}
		for _, b := range flat {
			w.bodies[b.Name] = body{b, m.Exps}
		}
		for _, d := range m.Decls {
			switch {
			case d.Extern:
			case d.Kind == api.DeclInt:
				w.globals[d.Name] = make([]int64, max(1, d.N))
			case d.Kind < api.DeclInt:
				w.atoms = append(w.atoms, api.Atom{Name: d.Name, Cap: d.N})
			}
		}
	}
	return w
}

func (w *walker) run(name string) {
	defer func() {
		if thrown := recover(); thrown != nil {
			_ = thrown.(stop)
		}
	}()
	w.call(name, nil)
}

func (w *walker) see(kind int, n int64) {
	w.sights = append(w.sights, sight{api.Event{Thread: w.thread, Kind: kind, N: n}, mostFor*w.weight + mostForCall*w.calls})
	if kind != api.EvPrint {
		panic(stop{})
	}
}

func size(exps []api.Exp, i int) int {
	e := exps[i]
	switch e.Kind {
	case api.ExpIndex, api.ExpOne:
		return 1 + size(exps, e.L)
	case api.ExpTwo:
		return 1 + size(exps, e.L) + size(exps, e.R)
	}
	return 1
}

// weigh adds the weight of an operation that is about to be done.
func (w *walker) weigh(b body, f api.Flat) {
	l := slices.Clone(f.Args)
	switch f.Op {
	case api.FlSet, api.FlPut, api.FlTest, api.FlPrint, api.FlRet:
		l = append(l, f.E)
	case api.FlSetG:
		l = append(l, f.E, f.I)
	}
	w.weight++
	for _, i := range l {
		if i != -1 {
			w.weight += size(b.exps, i)
		}
	}
	if w.weight > mostWeight {
		panic(stop{})
	}
}

func (w *walker) object(do int, name string, arg int64) int64 {
	l, answer, came := atom.Do(w.atoms, w.thread, do, name, arg)
	if came != api.AtomDone {
		panic(stop{})
	}
	w.atoms = l
	w.calls++
	return answer
}

func (w *walker) call(name string, args []int64) int64 {
	b := w.bodies[name]
	vars := make([]int64, len(b.Vars))
	copy(vars, args)
	for at := 0; ; at++ {
		f := b.Code[at]
		w.weigh(b, f)
		value := func(i int) int64 { return w.value(b, vars, i) }
		take := func(n int64) {
			if f.A != -1 {
				vars[f.A] = n
			}
		}
		switch f.Op {
		case api.FlSet:
			take(value(f.E))
		case api.FlSetG:
			i := int64(0)
			if f.I != -1 {
				i = value(f.I)
			}
			n := value(f.E)
			*w.element(f.Name, i) = n
		case api.FlCall:
			var args []int64
			for _, i := range f.Args {
				args = append(args, value(i))
			}
			take(w.call(f.Name, args))
		case api.FlGet:
			take(w.object(api.DoGet, f.Name, 0))
		case api.FlPut:
			take(w.object(api.DoPut, f.Name, value(f.E)))
		case api.FlAcq:
			w.object(api.DoAcquire, f.Name, 0)
		case api.FlRel:
			w.object(api.DoRelease, f.Name, 0)
		case api.FlTest:
			if value(f.E) == 0 {
				at = f.To - 1
			}
		case api.FlJump:
			at = f.To - 1
		case api.FlPrint:
			w.see(api.EvPrint, value(f.E))
		case api.FlRet:
			if f.E == -1 {
				return 0
			}
			return value(f.E)
		case api.FlEnd:
			w.see(api.EvEnd, 0)
		}
	}
}

func (w *walker) element(name string, i int64) *int64 {
	l := w.globals[name]
	if i < 0 || i >= int64(len(l)) {
		w.see(api.EvFault, 2)
	}
	return &l[i]
}

func (w *walker) value(b body, vars []int64, i int) int64 {
	e := b.exps[i]
	is := map[bool]int64{true: 1}
	part := func(i int) int64 { return w.value(b, vars, i) }
	switch e.Kind {
	case api.ExpNum:
		return e.N
	case api.ExpName:
		if number := slices.Index(b.Vars, e.Name); number >= 0 {
			return vars[number]
		}
		return *w.element(e.Name, 0)
	case api.ExpIndex:
		return *w.element(e.Name, part(e.L))
	case api.ExpOne:
		if e.Op == "!" {
			return is[part(e.L) == 0]
		}
		return -part(e.L)
	}
	switch e.Op {
	case "&&":
		return is[part(e.L) != 0 && part(e.R) != 0]
	case "||":
		return is[part(e.L) != 0 || part(e.R) != 0]
	}
	x, y := part(e.L), part(e.R)
	switch e.Op {
	case ">":
		return is[x > y]
	case ">=":
		return is[x >= y]
	}
	n, err := word.Bin(api.ADD+slices.Index(strings.Fields("+ - * / % & | ^ << >> == != < <="), e.Op), x, y)
	if err != api.OK {
		w.see(api.EvFault, 1)
	}
	return n
}

// wantQuick: each thread alone shows what its flat body shows, each event by at most so many steps. It answers how many there were.
func wantQuick(t *testing.T, l []string) int {
	t.Helper()
	im, e := driver.Build(l...)
	if e != api.OK {
		t.Fatalf("P23.2: error %d: %.200q", e, l)
	}
	modules, shown := reads(t, l), 0
	for i, name := range threads(modules) {
		w := newWalker(t, modules, i)
		w.run(name)
		m, _ := tso.New(im)
		steps := 0
		for k, want := range w.sights {
			for len(m.Events()) <= k && steps < want.cost {
				m.Do(2 * i)
				steps++
			}
			if got := m.Events(); len(got) <= k || got[k] != want.Event {
				t.Fatalf("P22.3: thread %s has shown %v by %d steps; want %+v: %.200q", name, got, steps, want, l)
			}
		}
		shown += len(w.sights)
	}
	return shown
}

func TestQuick(t *testing.T) {
	shown := 0
	for seed := range int64(150) {
		_, l, _ := madeUp(seed)
		shown += wantQuick(t, l)
	}
	if shown < 400 {
		t.Errorf("too little was shown: %d", shown)
	}
	for _, s := range []string{
		"thread t { }",
		"thread t { while (!0) { print 1; if (0) { } else { } } }",
		"thread t { var v = 0; while (v < 50) { v = v + 1; if (v || v) { print !v && -v; } } }",
		"thread t { print 0" + strings.Repeat(" || 0", 300) + "; }",
		"int f() rank 0 { } int g() rank 1 { f(); f(); } int h() rank 2 { g(); g(); g(); } thread t { h(); print 1; h(); h(); h(); }",
		"int f(a, b, c, d) rank 0 { return a; } thread t { var i = 0; while (i < 30) { i = i + 1; f(i, i, i, i); f(1, 1, 1, 1); print i; } }",
		"lock l; int x by l; int a[64] by l; thread t { var i = 0; while (i < 64) { with l { x = x + 1; a[i] = x; a[a[0]] = a[i]; print x; } i = i + 1; } }",
		"queue q 8; ticket l; thread t { while (1) { put(q, 1); print 1; get(q); print 2; with l { print 3; } } }",
	} {
		wantQuick(t, []string{s})
	}
}
