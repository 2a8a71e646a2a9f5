package rtl_test

import (
	"iter"
	"math"
	"math/rand"
	"slices"
	"testing"

	"cotter/api"
	"cotter/rtl"
)

// model runs functions by calls of its own: each thread is a sequence of what it comes to, and doing that may be refused.
type model struct {
	funcs   map[string]api.Func
	globals map[string]map[int64]int64
	owner   map[string]int
	queues  map[string][]int64
	caps    map[string]int
	now     []func() bool // nil: the thread has ended
	step    []func() (func() bool, bool)
	stop    []func()
	events  []api.Event
	acts    []api.Act
}

func newModel(f []api.Func, threads []string) *model {
	m := &model{funcs: map[string]api.Func{}, globals: map[string]map[int64]int64{}, owner: map[string]int{}, queues: map[string][]int64{}, caps: map[string]int{"q": 2, "r": 1}}
	for name, n := range arrays {
		m.globals[name] = map[int64]int64{}
		for i := range int64(max(1, n)) {
			m.globals[name][i] = 0
		}
	}
	for _, one := range f {
		m.funcs[one.Name] = one
	}
	for number, name := range threads {
		next, stop := iter.Pull(func(yield func(func() bool) bool) {
			w := &run{model: m, thread: number, yield: yield}
			w.body(name, nil)
		})
		m.step, m.stop = append(m.step, next), append(m.stop, stop)
		first, _ := next()
		m.now = append(m.now, first)
	}
	return m
}

func (m *model) close() {
	for _, stop := range m.stop {
		stop()
	}
}

func (m *model) do(pick int) bool {
	if pick < 0 {
		pick = -(pick + 1)
	}
	t := pick - pick/len(m.now)*len(m.now)
	if m.now[t] == nil || !m.now[t]() {
		return false
	}
	m.now[t], _ = m.step[t]()
	return true
}

// run is a thread's.
type run struct {
	*model
	thread int
	yield  func(func() bool) bool
	ended  bool
}

// come waits till the operation is done; false says that the thread goes on no more.
func (w *run) come(act func() bool) bool {
	if !w.yield(act) {
		w.ended = true
	}
	return !w.ended
}

func (w *run) finish(kind int, n int64) bool {
	w.events = append(w.events, api.Event{Thread: w.thread, Kind: kind, N: n})
	w.ended = true
	return true
}

func (w *run) did(do int, name string, arg, answer int64) bool {
	w.acts = append(w.acts, api.Act{Thread: w.thread, Do: do, Name: name, Arg: arg, Answer: answer})
	return true
}

func (w *run) body(name string, args []int64) (answer int64) {
	f := w.funcs[name]
	temps := map[int]int64{}
	for i, n := range args {
		temps[i] = n
	}
	for at := 0; ; at++ {
		o := f.Code[at]
		switch o.Op {
		case api.OpCall:
			var values []int64
			if !w.come(func() bool { return true }) {
				return 0
			}
			for _, a := range o.Args {
				values = append(values, temps[a])
			}
			n := w.body(o.Name, values)
			if w.ended {
				return 0
			}
			if o.D >= 0 {
				temps[o.D] = n
			}
		case api.OpRet:
			w.come(func() bool { return true })
			return temps[o.A]
		case api.OpJump:
			if !w.come(func() bool { return true }) {
				return 0
			}
			at = o.To - 1
		case api.OpIf:
			if !w.come(func() bool { return true }) {
				return 0
			}
			if temps[o.A] == 0 {
				at = o.To - 1
			}
		default:
			if !w.come(func() bool { return w.act(o, temps) }) {
				return 0
			}
		}
	}
}

func (w *run) act(o api.Op, temps map[int]int64) bool {
	element := int64(0)
	if o.A >= 0 {
		element = temps[o.A]
	}
	switch o.Op {
	case api.OpConst:
		temps[o.D] = o.N
	case api.OpCopy:
		temps[o.D] = temps[o.A]
	case api.OpBin:
		n, ok := modelBin(o.What, temps[o.A], temps[o.B])
		if !ok {
			return w.finish(api.EvFault, 1)
		}
		temps[o.D] = n
	case api.OpLoad, api.OpStore:
		n, ok := w.globals[o.Name][element]
		if !ok {
			return w.finish(api.EvFault, 2)
		}
		if o.Op == api.OpLoad {
			temps[o.D] = n
		} else {
			w.globals[o.Name][element] = temps[o.B]
		}
	case api.OpPrint:
		w.events = append(w.events, api.Event{Thread: w.thread, Kind: api.EvPrint, N: temps[o.A]})
		return w.did(api.DoPrint, "", temps[o.A], 0)
	case api.OpEnd:
		return w.finish(api.EvEnd, 0)
	case api.OpTrap:
		return w.finish(api.EvFault, o.N)
	default:
		return w.object(o, temps)
	}
	return true
}

func (w *run) object(o api.Op, temps map[int]int64) bool {
	answer := int64(0)
	switch o.Op {
	case api.OpAcq:
		if w.owner[o.Name] != 0 {
			return false
		}
		w.owner[o.Name] = w.thread + 1
		return w.did(api.DoAcquire, o.Name, 0, 0)
	case api.OpRel:
		if w.owner[o.Name] != w.thread+1 {
			return false
		}
		w.owner[o.Name] = 0
		return w.did(api.DoRelease, o.Name, 0, 0)
	case api.OpPut:
		n := temps[o.B]
		if n >= 0 && len(w.queues[o.Name]) < w.caps[o.Name] {
			w.queues[o.Name], answer = append(slices.Clone(w.queues[o.Name]), n), 1
		}
		w.did(api.DoPut, o.Name, n, answer)
	case api.OpGet:
		answer = -1
		if q := w.queues[o.Name]; len(q) > 0 {
			answer, w.queues[o.Name] = q[0], q[1:]
		}
		w.did(api.DoGet, o.Name, 0, answer)
	}
	if o.D >= 0 {
		temps[o.D] = answer
	}
	return true
}

func modelBin(what int, a, b int64) (int64, bool) {
	is := map[bool]int64{true: 1}
	switch what {
	case api.ADD:
		return a + b, true
	case api.SUB:
		return a - b, true
	case api.MUL:
		return a * b, true
	case api.DIV, api.REM:
		if b == 0 {
			return 0, false
		}
		if what == api.DIV {
			return a / b, true
		}
		return a % b, true
	case api.AND:
		return a & b, true
	case api.OR:
		return a | b, true
	case api.XOR:
		return a ^ b, true
	case api.SHL:
		return a << uint(b&63), true
	case api.SAR:
		return a >> uint(b&63), true
	case api.EQ:
		return is[a == b], true
	case api.NE:
		return is[a != b], true
	case api.LT:
		return is[a < b], true
	}
	return is[a <= b], true
}

// makeFuncs makes functions up that are those modules'.
func makeFuncs(r *rand.Rand) []api.Func {
	var all []api.Func
	for _, name := range names {
		f := api.Func{Name: name, Params: params[name], Temps: params[name] + 1 + r.Intn(4)}
		n := 2 + r.Intn(20)
		for range n - 1 {
			f.Code = append(f.Code, makeOp(r, f, n))
		}
		f.Code = append(f.Code, last(name))
		all = append(all, f)
	}
	r.Shuffle(len(all), func(i, j int) { all[i], all[j] = all[j], all[i] })
	return all
}

func makeOp(r *rand.Rand, f api.Func, n int) api.Op {
	temp := func() int { return r.Intn(f.Temps) }
	one := func(l ...string) string { return l[r.Intn(len(l))] }
	answer := func() int { return r.Intn(f.Temps+1) - 1 }
	o := api.Op{Op: []int{1, 1, 1, 2, 3, 3, 3, 4, 4, 5, 5, 6, 6, 7, 8, 8, 9, 10, 10, 10, 11, 12, 12, 13, 13, 14, 15, 16}[r.Intn(28)]}
	switch o.Op {
	case api.OpConst:
		o.D, o.N = temp(), []int64{0, 1, 2, 3, -1, 1 << 40, math.MinInt64, math.MaxInt64}[r.Intn(8)]
	case api.OpCopy:
		o.D, o.A = temp(), temp()
	case api.OpBin:
		o.D, o.A, o.B, o.What = temp(), temp(), temp(), 3+r.Intn(14)
	case api.OpLoad, api.OpStore:
		o.D, o.A, o.B, o.Name = temp(), temp(), temp(), one("x", "y", "a", "b")
		if arrays[o.Name] == 0 {
			o.A = -1
		}
	case api.OpCall:
		o.D, o.Name = answer(), one("f0", "f1", "f2", "f9", "g5")
		if ranks[o.Name] >= ranks[f.Name] {
			return api.Op{Op: api.OpPrint, A: temp()}
		}
		for range params[o.Name] {
			o.Args = append(o.Args, temp())
		}
	case api.OpGet, api.OpPut:
		o.D, o.B, o.Name = answer(), temp(), one("q", "r")
	case api.OpAcq, api.OpRel:
		o.Name, o.D = one("l", "k"), temp()
	case api.OpJump, api.OpIf:
		o.A, o.To = temp(), r.Intn(n)
	case api.OpPrint:
		o.A, o.Name, o.B = temp(), one("", "l"), -1
	default:
		if r.Intn(4) > 0 {
			return api.Op{Op: api.OpPrint, A: temp()}
		}
		o = last(f.Name)
		o.A, o.B = temp(), temp()
		if r.Intn(3) == 0 {
			o = api.Op{Op: api.OpTrap, N: int64(1 + r.Intn(127))}
		}
	}
	return o
}

// somePick is of any thread, in any of the ways to name it.
func somePick(r *rand.Rand) int {
	switch r.Intn(8) {
	case 0:
		return -1 - r.Intn(9)
	case 1:
		return []int{math.MinInt, math.MaxInt, math.MinInt + 1, 1 << 40, -1 << 33}[r.Intn(5)]
	}
	return r.Intn(9)
}

// Functions that are made up do, whatever the picks, what the table says.
func TestModel(t *testing.T) {
	l := reads(t, front...)
	kinds, acts, waits := map[int]int{}, map[int]int{}, 0
	for seed := range int64(4000) {
		r := rand.New(rand.NewSource(seed))
		f := makeFuncs(r)
		x, e := rtl.New(l, f)
		if e != api.OK {
			t.Fatalf("P18.1: seed %d: error %d: %+v", seed, e, f)
		}
		m := newModel(f, []string{"t", "u"})
		var picks []int
		for range 200 {
			pick := somePick(r)
			picks = append(picks, pick)
			did, want := x.Do(pick), m.do(pick)
			if did != want || !slices.Equal(x.Events(), m.events) || !slices.Equal(x.Acts(), m.acts) {
				t.Fatalf("P18.2: seed %d, behind %v: did %v, %v, %v; want %v, %v, %v", seed, picks, did, x.Events(), x.Acts(), want, m.events, m.acts)
			}
			if !did {
				waits++
			}
		}
		for _, v := range m.events {
			kinds[v.Kind]++
		}
		for _, a := range m.acts {
			acts[a.Do]++
		}
		if events, e := rtl.Run(l, f, picks); e != api.OK || !slices.Equal(events, m.events) {
			t.Fatalf("P18.2: seed %d: Run of %v: %v, error %d", seed, picks, events, e)
		}
		m.close()
	}
	for do := api.DoAcquire; do <= api.DoPrint; do++ {
		if acts[do] < 200 {
			t.Errorf("too little was done: %v", acts)
		}
	}
	if kinds[api.EvPrint] < 1000 || kinds[api.EvEnd] < 500 || kinds[api.EvFault] < 500 || waits < 1000 {
		t.Errorf("too little was seen: %v, %d waits", kinds, waits)
	}
}
