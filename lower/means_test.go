package lower_test

import (
	"math/rand"
	"slices"
	"testing"

	"cotter/api"
	"cotter/atom"
	"cotter/lower"
	"cotter/opt"
	"cotter/rtl"
	"cotter/src"
)

// lowered lowers each module alone.
func lowered(t *testing.T, l []api.Module) []api.Func {
	t.Helper()
	var all []api.Func
	for _, m := range l {
		f, e := lower.Lower(m)
		if e != api.OK {
			t.Fatalf("P19.1: error %d", e)
		}
		all = append(all, f...)
	}
	return all
}

// objects are the modules' locks and queues.
func objects(l []api.Module) []api.Atom {
	var all []api.Atom
	for _, m := range l {
		for _, d := range m.Decls {
			switch {
			case d.Extern:
			case d.Kind == api.DeclLock || d.Kind == api.DeclTicket:
				all = append(all, api.Atom{Name: d.Name})
			case d.Kind == api.DeclQueue:
				all = append(all, api.Atom{Name: d.Name, Cap: d.N})
			}
		}
	}
	return all
}

// follower lets a run of the modules show what a run of the functions shows: a thread of the modules goes on only when the functions' one shows something, and only as far as to that.
type follower struct {
	form    *rtl.Machine
	sources *src.Machine
	atoms   []api.Atom
	done    []int // of each thread, the operations of the functions, less those of the modules
	acts    []api.Act
	events  []api.Event
}

func newFollower(t *testing.T, l []api.Module, f []api.Func) *follower {
	t.Helper()
	form, e := rtl.New(l, f)
	if e != api.OK {
		t.Fatalf("P19.2: the functions are not the modules': error %d", e)
	}
	sources, e := src.New(l...)
	if e != api.OK {
		t.Fatalf("P17.2: error %d", e)
	}
	return &follower{form: form, sources: sources, atoms: objects(l), done: make([]int, len(sources.Threads()))}
}

// do says whether the same can be seen.
func (w *follower) do(thread int) bool {
	if !w.form.Do(thread) {
		return true
	}
	w.done[thread]++
	acts, events := w.form.Acts(), w.form.Events()
	if len(acts) == len(w.acts) && len(events) == len(w.events) {
		return true
	}
	if !w.follow(thread) {
		return false
	}
	return slices.Equal(w.acts, acts) && slices.Equal(w.events, events) && slices.Equal(w.sources.Events(), events)
}

// follow goes on to what can be seen of the thread. It never has to do more operations than the functions did.
func (w *follower) follow(thread int) bool {
	for w.done[thread] > 0 {
		w.done[thread]--
		act, on := w.sources.Next(thread)
		if !on || !w.sources.Do(thread) {
			return false
		}
		events := w.sources.Events()
		if act.Do == 0 && len(events) == len(w.events) {
			continue
		}
		w.events = events
		if act.Do != 0 {
			act.Back = 0
			w.atoms, act.Answer, _ = atom.Do(w.atoms, thread, act.Do, act.Name, act.Arg)
			w.acts = append(w.acts, act)
		}
		return true
	}
	return false
}

// Whatever the picks of functions that were lowered, the modules show the same.
func TestMeans(t *testing.T) {
	kinds, acts := map[int]int{}, map[int]int{}
	for seed := range int64(2000) {
		l := madeUp(t, seed)
		f := lowered(t, l)
		r := rand.New(rand.NewSource(seed))
		r.Shuffle(len(f), func(i, j int) { f[i], f[j] = f[j], f[i] })
		if seed%2 == 0 {
			slices.Reverse(l)
		}
		w := newFollower(t, l, f)
		thread := 0
		for i := range 600 {
			if r.Intn(6) == 0 {
				thread = r.Intn(3)
			}
			if !w.do(thread) {
				t.Fatalf("P19.2: seed %d, step %d: the functions show %v, %v; the modules %v, %v", seed, i, w.form.Acts(), w.form.Events(), w.acts, w.sources.Events())
			}
		}
		for _, v := range w.events {
			kinds[v.Kind]++
		}
		for _, a := range w.acts {
			acts[a.Do]++
		}
	}
	if kinds[api.EvPrint] < 3000 || kinds[api.EvEnd] < 1500 || kinds[api.EvFault] < 1500 {
		t.Errorf("too little was seen: %v", kinds)
	}
	for do := api.DoAcquire; do <= api.DoPrint; do++ {
		if acts[do] < 1000 {
			t.Errorf("too little was done: %v", acts)
		}
	}
}

// So they do when the functions are made fewer behind that.
func TestMeansFewer(t *testing.T) {
	for seed := range int64(500) {
		l := madeUp(t, seed)
		f := lowered(t, l)
		for i, one := range f {
			g, e := opt.Opt(one)
			if e != api.OK || len(g.Code) > len(one.Code) {
				t.Fatalf("P20.1: seed %d: %d operations of %d, error %d", seed, len(g.Code), len(one.Code), e)
			}
			f[i] = g
		}
		w := newFollower(t, l, f)
		for i := range w.done { // the modules may do many more operations
			w.done[i] = 100000
		}
		r := rand.New(rand.NewSource(seed))
		thread := 0
		for i := range 400 {
			if r.Intn(6) == 0 {
				thread = r.Intn(3)
			}
			if !w.do(thread) {
				t.Fatalf("P20.2: seed %d, step %d: the functions show %v, %v; the modules %v, %v", seed, i, w.form.Acts(), w.form.Events(), w.acts, w.sources.Events())
			}
		}
	}
}

// wantRun lets one thread of functions do so many operations alone.
func wantRun(t *testing.T, source string, want ...api.Event) {
	t.Helper()
	l := reads(t, source)
	events, e := rtl.Run(l, lowered(t, l), make([]int, 2000))
	if e != api.OK || !slices.Equal(events, want) {
		t.Errorf("P19.2: %s: %v, error %d; want %v", source, events, e, want)
	}
	if events, e = src.Run(l, make([]int, 2000)); e != api.OK || !slices.Equal(events, want) {
		t.Errorf("P17.4: %s: %v, error %d; want %v", source, events, e, want)
	}
}

func print(n int64) api.Event { return api.Event{Kind: api.EvPrint, N: n} }

func fault(n int64) api.Event { return api.Event{Kind: api.EvFault, N: n} }

var end = api.Event{Kind: api.EvEnd}

// Each kind of expression and statement, at its edges.
func TestRuns(t *testing.T) {
	wantRun(t, "thread t { }", end)
	wantRun(t, "thread t { print 1 + 2; print -5; print - -5; print !0; print !7; print !!7; }", print(3), print(-5), print(5), print(1), print(0), print(1), end)
	wantRun(t, "thread t { print 7 / 2; print -7 / 2; print -7 % 3; print 7 - 2 - 1; print 1 << 65; print -8 >> 1; }", print(3), print(-3), print(-1), print(4), print(2), print(-4), end)
	wantRun(t, "thread t { print 3 > 2; print 2 > 3; print 2 > 2; print 2 >= 2; print 1 >= 2; print 3 >= 2; print 2 < 3; print 3 <= 3; print 1 == 2; print 1 != 2; }", print(1), print(0), print(0), print(1), print(0), print(1), print(1), print(1), print(0), print(1), end)
	// Of && and || the right side is worked out only where it counts.
	wantRun(t, "thread t { print 0 && 1 / 0; print 5 || 1 / 0; print 5 && 7; print 0 || 7; print 0 || 0; print 5 && 0; print 1 && 1 / 0; }", print(0), print(1), print(1), print(1), print(0), print(0), fault(1))
	wantRun(t, "thread t { print 0 || 1 / 0; }", fault(1))
	// A variable is read as it was, wherever its value is to stand.
	wantRun(t, "thread t { var v = 5; v = 1 && v; print v; v = 3; v = v || v; print v; v = 4; v = v - (1 - v) * v; print v; v = v && v; print v; v = 0; v = v || v; print v; v = !v; print v; v = -v; print v; }", print(1), print(1), print(16), print(1), print(0), print(1), print(-1), end)
	// A variable that was not written yet is 0, and keeps its value when its block comes round again.
	wantRun(t, "thread t { var i = 0; if (0) { var v = 7; } print v; while (i < 3) { if (i == 1) { var w = i + 40; } print w; i = i + 1; } }", print(0), print(0), print(41), print(41), end)
	// The left side's fault is the first; an element that is not there counts behind both sides.
	wantRun(t, "lock l; int a[3] by l; thread t { with l { print a[3] + 1 / 0; } }", fault(2))
	wantRun(t, "lock l; int a[3] by l; thread t { with l { print 1 / 0 + a[3]; } }", fault(1))
	wantRun(t, "lock l; int a[3] by l; thread t { with l { print 1 / 0 > a[3]; } }", fault(1))
	wantRun(t, "lock l; int a[3] by l; thread t { with l { print a[3] > 1 / 0; } }", fault(2))
	wantRun(t, "lock l; int a[3] by l; thread t { with l { a[3] = 1 / 0; } }", fault(1))
	wantRun(t, "lock l; int a[3] by l; thread t { with l { a[1 / 0] = a[9]; } }", fault(1))
	wantRun(t, "lock l; int a[3] by l; thread t { with l { a[a[9]] = 1 / 0; } }", fault(2))
	wantRun(t, "lock l; int a[3] by l; thread t { with l { a[2] = 6; print a[2]; a[-1] = 1; } }", print(6), fault(2))
	wantRun(t, "lock l; int a[3] by l; int x by l; thread t { with l { a[0] = 2; a[a[0]] = 8; x = a[a[0]] + a[0]; print x; print a[x - 9]; } }", print(10), print(0), end)
	// Calls: arguments from the left, answers, and none.
	wantRun(t, "int f(a, b) rank 0 { return a - b; } int g() rank 1 { } thread t { var v = 9; v = f(v, 4); print v; f(v, v); print v; v = f(v, v + 1); print v; v = g(); print v; }", print(5), print(5), print(-1), print(0), end)
	wantRun(t, "int f(a, b) rank 0 { if (a) { return b; } while (1) { return 3; } } int g(a) rank 1 { a = f(a, a); return a; } thread t { var v = 0; v = g(8); print v; v = g(0); print v; }", print(8), print(3), end)
	wantRun(t, "lock l; int a[1] by l; int f(p, s) rank 0 { } thread t { with l { f(1 / 0, a[5]); } }", fault(1))
	wantRun(t, "lock l; int a[1] by l; int f(p, s) rank 0 { print 1; } thread t { with l { f(a[5], 1 / 0); } }", fault(2))
	// A function's variables are its frame's own.
	wantRun(t, "int f(a) rank 0 { if (0) { var v = 1; } print v; v = a; print v; return v; } thread t { f(4); f(5); }", print(0), print(4), print(0), print(5), end)
	wantRun(t, "queue q 1; thread t { var v = 0; v = put(q, 5); print v; v = put(q, 6); print v; v = get(q); print v; v = get(q); print v; put(q, -1); get(q); }", print(1), print(0), print(5), print(-1), end)
	wantRun(t, "thread t { if (0) { print 1; } else { print 2; } if (1) { print 3; } else { print 4; } if (0) { print 5; } if (2) { } else { print 6; } while (0) { print 7; } print 8; }", print(2), print(3), print(8), end)
	// A thread that waits for itself shows nothing more.
	wantRun(t, "lock l; int f() rank 0 { with l { print 2; } } thread t { with l { print 1; f(); } }", print(1))
}
