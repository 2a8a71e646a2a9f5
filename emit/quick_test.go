package emit_test

import (
	"math/rand"
	"slices"
	"strings"
	"testing"

	"cotter/api"
	"cotter/atom"
	"cotter/src"
	"cotter/word"
)

// mostFor is how many steps come for each 1 of the weights of the sources' operations, mostForCall how many more for each call of a lock's or queue's function.
const (
	mostFor     = 100
	mostForCall = 200
)

// body is a flat body with its module's expressions.
type body struct {
	api.Body
	exps []api.Exp
}

// sight is what was seen, and the weights, or steps, till then.
type sight struct {
	thread int
	kind   int // an event's, or 10 more than an act's
	name   string
	n      int64
	answer int64
	cost   int
}

// walker runs one thread of flat bodies alone, and weighs what it does.
type walker struct {
	bodies  map[string]body
	globals map[string][]int64
	atoms   []api.Atom
	weight  int
	thread  int
	sights  []sight
}

// stop is what a walker throws when its thread goes on no more.
type stop struct{}

// mostWeight is where a walker stops at the latest.
const mostWeight = 700

func newWalker(t *testing.T, l []api.Module) *walker {
	t.Helper()
	w := &walker{bodies: map[string]body{}, globals: map[string][]int64{}, atoms: objects(l)}
	for _, m := range l {
		flat, e := src.Flatten(m)
		if e != api.OK {
			t.Fatalf("P17.1: error %d", e)
		}
		for _, b := range flat {
			w.bodies[b.Name] = body{b, m.Exps}
		}
		for _, d := range m.Decls {
			if d.Kind == api.DeclInt && !d.Extern {
				w.globals[d.Name] = make([]int64, max(1, d.N))
			}
		}
	}
	return w
}

func (w *walker) run(name string) {
	defer func() {
		if thrown := recover(); thrown != nil {
			_ = thrown.(stop)
		}
	}()
	w.call(name, nil)
}

func (w *walker) see(kind int, name string, n, answer int64) {
	w.sights = append(w.sights, sight{w.thread, kind, name, n, answer, w.weight})
}

func (w *walker) finish(kind int, n int64) {
	w.see(kind, "", n, 0)
	panic(stop{})
}

func size(exps []api.Exp, i int) int {
	e := exps[i]
	switch e.Kind {
	case api.ExpIndex, api.ExpOne:
		return 1 + size(exps, e.L)
	case api.ExpTwo:
		return 1 + size(exps, e.L) + size(exps, e.R)
	}
	return 1
}

// weigh adds the weight of an operation that is about to be done.
func (w *walker) weigh(b body, f api.Flat) {
	l := slices.Clone(f.Args)
	switch f.Op {
	case api.FlSet, api.FlPut, api.FlTest, api.FlPrint:
		l = append(l, f.E)
	case api.FlSetG, api.FlRet:
		l = append(l, f.E, f.I)
		if f.Op == api.FlRet {
			l = l[:1]
		}
	}
	w.weight++
	for _, i := range l {
		if i != -1 {
			w.weight += size(b.exps, i)
		}
	}
	if w.weight > mostWeight {
		panic(stop{})
	}
}

func (w *walker) object(do int, name string, arg int64) int64 {
	l, answer, came := atom.Do(w.atoms, w.thread, do, name, arg)
	if came != api.AtomDone {
		panic(stop{})
	}
	w.atoms = l
	w.see(10+do, name, arg, answer)
	return answer
}

func (w *walker) call(name string, args []int64) int64 {
	b := w.bodies[name]
	vars := map[string]int64{}
	for i, n := range args {
		vars[b.Vars[i]] = n
	}
	for at := 0; ; at++ {
		f := b.Code[at]
		w.weigh(b, f)
		value := func(i int) int64 { return w.value(b, vars, i) }
		take := func(n int64) {
			if f.A != -1 {
				vars[b.Vars[f.A]] = n
			}
		}
		switch f.Op {
		case api.FlSet:
			take(value(f.E))
		case api.FlSetG:
			i := int64(0)
			if f.I != -1 {
				i = value(f.I)
			}
			n := value(f.E)
			*w.element(f.Name, i) = n
		case api.FlCall:
			var args []int64
			for _, i := range f.Args {
				args = append(args, value(i))
			}
			take(w.call(f.Name, args))
		case api.FlGet:
			take(w.object(api.DoGet, f.Name, 0))
		case api.FlPut:
			take(w.object(api.DoPut, f.Name, value(f.E)))
		case api.FlAcq:
			w.object(api.DoAcquire, f.Name, 0)
		case api.FlRel:
			w.object(api.DoRelease, f.Name, 0)
		case api.FlTest:
			if value(f.E) == 0 {
				at = f.To - 1
			}
		case api.FlJump:
			at = f.To - 1
		case api.FlPrint:
			w.see(api.EvPrint, "", value(f.E), 0)
		case api.FlRet:
			if f.E == -1 {
				return 0
			}
			return value(f.E)
		case api.FlEnd:
			w.finish(api.EvEnd, 0)
		}
	}
}

func (w *walker) element(name string, i int64) *int64 {
	l := w.globals[name]
	if i < 0 || i >= int64(len(l)) {
		w.finish(api.EvFault, 2)
	}
	return &l[i]
}

func (w *walker) value(b body, vars map[string]int64, i int) int64 {
	e := b.exps[i]
	is := map[bool]int64{true: 1}
	part := func(i int) int64 { return w.value(b, vars, i) }
	switch e.Kind {
	case api.ExpNum:
		return e.N
	case api.ExpName:
		if slices.Contains(b.Vars, e.Name) {
			return vars[e.Name]
		}
		return *w.element(e.Name, 0)
	case api.ExpIndex:
		return *w.element(e.Name, part(e.L))
	case api.ExpOne:
		if e.Op == "!" {
			return is[part(e.L) == 0]
		}
		return -part(e.L)
	}
	switch e.Op {
	case "&&":
		return is[part(e.L) != 0 && part(e.R) != 0]
	case "||":
		return is[part(e.L) != 0 || part(e.R) != 0]
	}
	x, y := part(e.L), part(e.R)
	switch e.Op {
	case ">":
		return is[x > y]
	case ">=":
		return is[x >= y]
	}
	what := 3 + slices.Index(strings.Fields("+ - * / % & | ^ << >> == != < <="), e.Op)
	n, err := word.Bin(what, x, y)
	if err != api.OK {
		w.finish(api.EvFault, 1)
	}
	return n
}

// countAlone lets one thread of the machine do steps alone, till it shows so much, or goes on no more.
func countAlone(w *follower, thread int, most int) (sights []sight, steps int) {
	number := w.numbers[thread]
	for len(sights) < most {
		was, events := w.within[thread], len(w.Events())
		if c, _ := w.Thread(thread); c.State != api.Running || w.steps[thread] > (mostFor+mostForCall)*mostWeight {
			break
		}
		if wrong := w.step(thread); wrong != "" {
			return []sight{{name: wrong}}, 0
		}
		if was != nil && w.within[thread] == nil {
			sights = append(sights, sight{number, 10 + was.act.Do, was.act.Name, was.act.Arg, was.act.Answer, w.steps[thread]})
		}
		for _, v := range w.Events()[events:] {
			sights = append(sights, sight{number, v.Kind, "", v.N, 0, w.steps[thread]})
		}
	}
	return sights, w.steps[thread]
}

// wantQuick: the thread shows what its flat body shows, by at most so many steps. It answers how many there were for each 1 of the weights, less those for calls.
func wantQuick(t *testing.T, label string, l []api.Module, im api.Image, name string) int {
	t.Helper()
	f := newFollower(t, l, im)
	thread := slices.Index(f.numbers, slices.Index(f.sources.Threads(), name))
	w := newWalker(t, l)
	w.thread = f.numbers[thread]
	w.run(name)
	sights, _ := countAlone(f, thread, len(w.sights))
	if len(sights) != len(w.sights) {
		t.Fatalf("P22.3: %s: thread %s: %v; want %v", label, name, sights, w.sights)
	}
	calls, worst := 0, 0
	for i, want := range w.sights {
		got := sights[i]
		if want.kind > 10 {
			calls++
		}
		if got.cost > mostFor*want.cost+mostForCall*calls {
			t.Fatalf("P22.3: %s: thread %s: %d steps for weights of %d, and %d calls", label, name, got.cost, want.cost, calls)
		}
		worst = max(worst, (got.cost-20*calls)/want.cost)
		got.cost = want.cost
		if got != want {
			t.Fatalf("P22.2: %s: thread %s: %v is seen; want %v", label, name, got, want)
		}
	}
	return worst
}

// Each thread alone, whatever the others would do.
func TestQuick(t *testing.T) {
	for seed := range int64(400) {
		l := madeUp(t, seed)
		how := way{fewer: seed%2 == 0}
		if seed%4 > 1 {
			how.places = rand.New(rand.NewSource(seed))
		}
		im := how.build(t, nil, l)
		for _, name := range []string{"t", "u", "w"} {
			wantQuick(t, "made up", l, im, name)
		}
	}
}

// manyVars has so many variables that are read, and may not have been written, where neither is come to.
func manyVars() string {
	var sets, prints strings.Builder
	for _, name := range strings.Split("ABCDEFGHIJKLMNOPQRSTUVWX", "") {
		sets.WriteString("var " + name + " = 1; ")
		prints.WriteString("print " + name + "; ")
	}
	return "{ if (0) { " + sets.String() + "} if (0) { " + prints.String() + "} }"
}

// Where operations weigh least against what becomes of them.
func TestQuickEdges(t *testing.T) {
	for _, s := range []string{
		"thread t { }",
		"thread t { while (1) { } }",
		"thread t " + manyVars(),
		"int f() rank 0 " + manyVars() + " thread t { f(); f(); f(); print 1; f(); }",
		"thread t { while (!0) { print 1; if (0) { } else { } } }",
		"thread t { var v = 0; while (v < 50) { v = v + 1; if (v || v) { print !v && -v; } } }",
		"thread t { print 0" + strings.Repeat(" || 0", 300) + "; }",
		"thread t { print 1" + strings.Repeat(" && 1", 300) + "; }",
		"thread t { var v = 1; print v" + strings.Repeat(" && v", 300) + "; }",
		"thread t { var v = 1; print !v" + strings.Repeat(" || !v", 150) + "; }",
		"int f() rank 0 { } int g() rank 1 { f(); f(); } int h() rank 2 { g(); g(); g(); } thread t { h(); print 1; h(); h(); h(); }",
		"int f(a, b, c, d) rank 0 { return a; } thread t { var i = 0; while (i < 30) { i = i + 1; f(i, i, i, i); f(1, 1, 1, 1); } }",
		"lock l; int x by l; int a[64] by l; thread t { var i = 0; while (i < 64) { with l { x = x + 1; a[i] = x; a[a[0]] = a[i]; } i = i + 1; } }",
		"lock l; int a[64] by l; thread t { with l { print " + strings.Repeat("a[", 15) + "0" + strings.Repeat("]", 15) + "; a[0] = a[a[a[1]]]; } }",
		"queue q 8; thread t { while (1) { put(q, 1); get(q); } }",
		"ticket l; thread t { while (1) { with l { } } }",
	} {
		l := reads(t, s)
		for _, how := range []way{{}, {fewer: true}, {places: rand.New(rand.NewSource(1))}} {
			if worst := wantQuick(t, s[:min(len(s), 60)], l, how.build(t, nil, l), "t"); worst > 40 {
				t.Errorf("%.60s: %d steps for each 1", s, worst)
			}
		}
	}
}
