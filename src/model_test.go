package src_test

import (
	"iter"
	"math"
	"math/rand"
	"slices"
	"testing"

	"cotter/api"
	"cotter/src"
)

// pending is an operation that a thread has come to: what is seen of it, and what doing it does (false: it must wait).
type pending struct {
	do  int
	exp int // what is worked out to be seen (-1: nothing)
	act func() bool

	name string
	in   *walk
}

// model goes along the trees of modules, without flat forms: each thread is a sequence of what it comes to.
type model struct {
	modules []api.Module
	decls   map[string]api.Decl
	home    map[string]int // which module gives what
	globals map[string][]int64
	owner   map[string]int
	queues  map[string][]int64
	names   []string
	now     []*pending // nil: the thread has ended
	step    []func() (*pending, bool)
	stop    []func()
	events  []api.Event
}

type modelFault int64

func newModel(l []api.Module) *model {
	m := &model{modules: l, decls: map[string]api.Decl{}, home: map[string]int{}, globals: map[string][]int64{}, owner: map[string]int{}, queues: map[string][]int64{}}
	for i, one := range l {
		for _, d := range one.Decls {
			if d.Extern {
				continue
			}
			m.decls[d.Name], m.home[d.Name] = d, i
			if d.Kind == api.DeclInt {
				m.globals[d.Name] = make([]int64, max(1, d.N))
			}
		}
	}
	for _, one := range l {
		for _, d := range one.Decls {
			if d.Kind == api.DeclThread {
				m.start(d)
			}
		}
	}
	return m
}

func (m *model) start(d api.Decl) {
	number := len(m.names)
	m.names = append(m.names, d.Name)
	next, stop := iter.Pull(func(yield func(*pending) bool) {
		defer func() { // a sequence that is stopped is left from wherever it is
			if thrown := recover(); thrown != nil && thrown != "stopped" {
				panic(thrown)
			}
		}()
		w := &walk{model: m, thread: number, module: m.modules[m.home[d.Name]], vars: map[string]int64{}, yield: func(p *pending) {
			if !yield(p) {
				panic("stopped")
			}
		}}
		w.block(d.Body)
		w.come(func() bool { m.see(number, api.EvEnd, 0); return true })
	})
	m.step, m.stop = append(m.step, next), append(m.stop, stop)
	first, _ := next()
	m.now = append(m.now, first)
}

func (m *model) close() {
	for _, stop := range m.stop {
		stop()
	}
}

func (m *model) see(thread, kind int, n int64) {
	m.events = append(m.events, api.Event{Thread: thread, Kind: kind, N: n})
}

func (m *model) turn(t int) int {
	if t < 0 {
		t = -(t + 1)
	}
	return t - t/len(m.now)*len(m.now)
}

func (m *model) do(t int) (did bool) {
	t = m.turn(t)
	p := m.now[t]
	if p == nil {
		return false
	}
	defer func() {
		if n, ok := recover().(modelFault); ok {
			m.see(t, api.EvFault, int64(n))
			m.now[t], did = nil, true
		}
	}()
	if !p.act() {
		return false
	}
	m.now[t] = nil
	if next, ok := m.step[t](); ok {
		m.now[t] = next
	}
	return true
}

func (m *model) next(t int) (a api.Act, on bool) {
	t = m.turn(t)
	p := m.now[t]
	if p == nil {
		return api.Act{}, false
	}
	plain := api.Act{Thread: t, Back: -1}
	defer func() {
		if _, ok := recover().(modelFault); ok {
			a, on = plain, true
		}
	}()
	a = plain
	a.Do, a.Name = p.do, p.name
	if p.exp >= 0 {
		a.Arg = p.in.exp(p.exp)
	}
	return a, true
}

// walk is a body that a thread is in.
type walk struct {
	*model
	thread int
	module api.Module
	vars   map[string]int64
	yield  func(*pending)
}

func (w *walk) come(act func() bool) {
	w.yield(&pending{act: act, exp: -1, in: w})
}

func (w *walk) shown(do int, name string, exp int, act func() bool) {
	w.yield(&pending{do: do, name: name, exp: exp, act: act, in: w})
}

// block tells whether a return was met, and what it gives.
func (w *walk) block(l []int) (int64, bool) {
	for _, i := range l {
		if n, gone := w.stmt(w.module.Stmts[i]); gone {
			return n, true
		}
	}
	return 0, false
}

func (w *walk) stmt(s api.Stmt) (n int64, gone bool) {
	switch s.Kind {
	case api.StVar:
		w.come(func() bool { w.vars[s.Name] = w.exp(s.E); return true })
	case api.StSet:
		w.come(func() bool {
			v := w.exp(s.E)
			if _, ok := w.vars[s.Name]; ok || !w.isGlobalHere(s.Name) {
				w.vars[s.Name] = v
			} else {
				w.globals[s.Name][0] = v
			}
			return true
		})
	case api.StSetAt:
		w.come(func() bool {
			i := w.exp(s.I)
			v := w.exp(s.E)
			*w.at(s.Name, i) = v
			return true
		})
	case api.StCall:
		w.call(s)
	case api.StGet:
		w.shown(api.DoGet, s.Fun, -1, func() bool {
			v := int64(-1)
			if q := w.queues[s.Fun]; len(q) > 0 {
				v, w.queues[s.Fun] = q[0], q[1:]
			}
			w.answer(s.Name, v)
			return true
		})
	case api.StPut:
		w.shown(api.DoPut, s.Fun, s.E, func() bool {
			v, took := w.exp(s.E), int64(0)
			if v >= 0 && len(w.queues[s.Fun]) < w.decls[s.Fun].N {
				w.queues[s.Fun], took = append(slices.Clone(w.queues[s.Fun]), v), 1
			}
			w.answer(s.Name, took)
			return true
		})
	case api.StIf, api.StWhile:
		return w.turns(s)
	case api.StWith:
		w.shown(api.DoAcquire, s.Name, -1, func() bool {
			if w.owner[s.Name] != 0 {
				return false
			}
			w.owner[s.Name] = w.thread + 1
			return true
		})
		n, gone = w.block(s.Body)
		w.shown(api.DoRelease, s.Name, -1, func() bool { w.owner[s.Name] = 0; return true })
	case api.StPrint:
		w.shown(api.DoPrint, "", s.E, func() bool { w.see(w.thread, api.EvPrint, w.exp(s.E)); return true })
	case api.StReturn:
		w.come(func() bool { n = w.exp(s.E); return true })
		gone = true
	}
	return n, gone
}

func (w *walk) isGlobalHere(name string) bool {
	return slices.ContainsFunc(w.module.Decls, func(d api.Decl) bool { return d.Name == name })
}

func (w *walk) answer(name string, n int64) {
	if name != "" {
		w.vars[name] = n
	}
}

func (w *walk) turns(s api.Stmt) (int64, bool) {
	for {
		holds := false
		w.come(func() bool { holds = w.exp(s.E) != 0; return true })
		if !holds {
			return w.block(s.Else)
		}
		if n, gone := w.block(s.Body); gone {
			return n, true
		}
		if s.Kind == api.StWhile || len(s.Else) > 0 {
			w.come(func() bool { return true }) // the jump
		}
		if s.Kind == api.StIf {
			return 0, false
		}
	}
}

func (w *walk) call(s api.Stmt) {
	d := w.decls[s.Fun]
	inner := &walk{model: w.model, thread: w.thread, module: w.modules[w.home[s.Fun]], vars: map[string]int64{}, yield: w.yield}
	w.come(func() bool {
		for i, e := range s.Args {
			inner.vars[d.Params[i]] = w.exp(e)
		}
		return true
	})
	n, gone := inner.block(d.Body)
	if !gone {
		w.come(func() bool { return true })
	}
	w.answer(s.Name, n) // nobody sees when, between this operation and the next one
}

func (w *walk) at(name string, i int64) *int64 {
	if i < 0 || i >= int64(w.decls[name].N) {
		panic(modelFault(2))
	}
	return &w.globals[name][i]
}

func b(is bool) int64 {
	if is {
		return 1
	}
	return 0
}

func (w *walk) exp(i int) int64 {
	e := w.module.Exps[i]
	switch e.Kind {
	case api.ExpNum:
		return e.N
	case api.ExpName:
		if w.isGlobalHere(e.Name) {
			return w.globals[e.Name][0]
		}
		return w.vars[e.Name]
	case api.ExpIndex:
		return *w.at(e.Name, w.exp(e.L))
	case api.ExpOne:
		n := w.exp(e.L)
		if e.Op == "-" {
			return -n
		}
		return b(n == 0)
	}
	l := w.exp(e.L)
	if e.Op == "&&" {
		return b(l != 0 && w.exp(e.R) != 0)
	}
	if e.Op == "||" {
		return b(l != 0 || w.exp(e.R) != 0)
	}
	return modelTwo(e.Op, l, w.exp(e.R))
}

func modelTwo(op string, l, r int64) int64 {
	switch op {
	case "+":
		return l + r
	case "-":
		return l - r
	case "*":
		return l * r
	case "/", "%":
		if r == 0 {
			panic(modelFault(1))
		}
		if op == "%" {
			return l % r
		}
		return l / r
	case "&":
		return l & r
	case "|":
		return l | r
	case "^":
		return l ^ r
	case "<<":
		return l << (uint64(r) % 64)
	case ">>":
		return l >> (uint64(r) % 64)
	case "==":
		return b(l == r)
	case "!=":
		return b(l != r)
	case "<":
		return b(l < r)
	case "<=":
		return b(l <= r)
	case ">":
		return b(l > r)
	}
	return b(l >= r)
}

// somePick is of any thread, in any of the ways to name it.
func somePick(r *rand.Rand) int {
	switch r.Intn(8) {
	case 0:
		return -1 - r.Intn(9)
	case 1:
		return []int{math.MinInt, math.MaxInt, math.MinInt + 1, 1 << 40, -1 << 33}[r.Intn(5)]
	}
	return r.Intn(9)
}

// Modules that are made up do, whatever the picks, what their trees say.
func TestModel(t *testing.T) {
	events, waits, kinds := 0, 0, map[int]int{}
	for seed := range int64(1500) {
		r := rand.New(rand.NewSource(seed))
		l := modules(t, r)
		x, e := src.New(l...)
		if e != api.OK {
			t.Fatalf("P17.2: seed %d: error %d", seed, e)
		}
		m := newModel(l)
		if !slices.Equal(x.Threads(), m.names) {
			t.Fatalf("P17.2: seed %d: threads %v; want %v", seed, x.Threads(), m.names)
		}
		var picks []int
		for range 250 {
			pick := somePick(r)
			picks = append(picks, pick)
			got, on := x.Next(pick)
			if want, goes := m.next(pick); got != want || on != goes {
				t.Fatalf("P17.3: seed %d, behind %v: %+v, %v; want %+v, %v", seed, picks, got, on, want, goes)
			}
			did, want := x.Do(pick), m.do(pick)
			if did != want {
				t.Fatalf("P17.2: seed %d, behind %v: did %v; want %v", seed, picks, did, want)
			}
			if !did && on {
				waits++
			}
			compare(t, x, m, seed, picks)
		}
		for _, v := range m.events {
			kinds[v.Kind]++
		}
		events += len(m.events)
		if l, e := src.Run(l, picks); e != api.OK || !slices.Equal(l, m.events) {
			t.Fatalf("P17.4: seed %d: Run of %v: %v, error %d", seed, picks, l, e)
		}
		m.close()
	}
	if events < 3000 || waits < 300 || kinds[api.EvPrint] < 1000 || kinds[api.EvEnd] < 500 || kinds[api.EvFault] < 200 {
		t.Errorf("too little was seen: %d events, %d waits, %v", events, waits, kinds)
	}
}

func compare(t *testing.T, x *src.Machine, m *model, seed int64, picks []int) {
	t.Helper()
	if !slices.Equal(x.Events(), m.events) {
		t.Fatalf("P17.4: seed %d, behind %v: events %v; want %v", seed, picks, x.Events(), m.events)
	}
	for name := range m.decls {
		if !slices.Equal(x.Global(name), m.globals[name]) {
			t.Fatalf("P17.4: seed %d, behind %v: %s is %v; want %v", seed, picks, name, x.Global(name), m.globals[name])
		}
	}
}
