package rtl_test

import (
	"math"
	"math/rand"
	"reflect"
	"slices"
	"testing"

	"cotter/api"
	"cotter/rtl"
)

func prints(thread int, l ...int64) []api.Event {
	var all []api.Event
	for _, n := range l {
		all = append(all, api.Event{Thread: thread, Kind: api.EvPrint, N: n})
	}
	return all
}

func ends(l []api.Event, thread int) []api.Event {
	return append(l, api.Event{Thread: thread, Kind: api.EvEnd})
}

func faults(l []api.Event, thread int, n int64) []api.Event {
	return append(l, api.Event{Thread: thread, Kind: api.EvFault, N: n})
}

func constant(d int, n int64) api.Op { return api.Op{Op: api.OpConst, D: d, N: n} }

func show(a int) api.Op { return api.Op{Op: api.OpPrint, A: a} }

func bin(what, d, a, b int) api.Op { return api.Op{Op: api.OpBin, What: what, D: d, A: a, B: b} }

func load(d int, name string, a int) api.Op {
	return api.Op{Op: api.OpLoad, D: d, Name: name, A: a}
}

func store(name string, a, b int) api.Op {
	return api.Op{Op: api.OpStore, Name: name, A: a, B: b}
}

func call(d int, name string, args ...int) api.Op {
	return api.Op{Op: api.OpCall, D: d, Name: name, Args: args}
}

func get(d int, name string) api.Op { return api.Op{Op: api.OpGet, D: d, Name: name} }

func put(d int, name string, b int) api.Op { return api.Op{Op: api.OpPut, D: d, Name: name, B: b} }

func acq(name string) api.Op { return api.Op{Op: api.OpAcq, Name: name} }

func rel(name string) api.Op { return api.Op{Op: api.OpRel, Name: name} }

func jump(to int) api.Op { return api.Op{Op: api.OpJump, To: to} }

func unless(a, to int) api.Op { return api.Op{Op: api.OpIf, A: a, To: to} }

func trap(n int64) api.Op { return api.Op{Op: api.OpTrap, N: n} }

func ret(a int) api.Op { return api.Op{Op: api.OpRet, A: a} }

// with are the plain functions with other operations in some of them.
func with(code map[string][]api.Op) []api.Func {
	all := plain("")
	for i, f := range all {
		if l, ok := code[f.Name]; ok {
			all[i].Code = append(slices.Clone(l), last(f.Name))
		}
	}
	return all
}

func made(t *testing.T, f []api.Func) *rtl.Machine {
	t.Helper()
	m, e := rtl.New(reads(t, front...), f)
	if e != api.OK {
		t.Fatalf("P18.1: %+v: error %d", f, e)
	}
	return m
}

// wantAlone lets the first thread go on till it can't.
func wantAlone(t *testing.T, code map[string][]api.Op, want []api.Event) *rtl.Machine {
	t.Helper()
	m := made(t, with(code))
	for i := 0; m.Do(0); i++ {
		if i > 100000 {
			t.Fatalf("%+v: no end", code)
		}
	}
	if !slices.Equal(m.Events(), want) {
		t.Errorf("P18.2: %+v: %v; want %v", code, m.Events(), want)
	}
	return m
}

func alone(t *testing.T, want []api.Event, l ...api.Op) *rtl.Machine {
	t.Helper()
	return wantAlone(t, map[string][]api.Op{"t": l}, want)
}

func TestExample(t *testing.T) {
	l := reads(t, "thread t { }")
	f := []api.Func{{Name: "t", Temps: 1, Code: []api.Op{constant(0, 5), show(0), {Op: api.OpEnd}}}}
	if events, e := rtl.Run(l, f, []int{0, 0, 0}); e != api.OK || !slices.Equal(events, ends(prints(0, 5), 0)) {
		t.Errorf("%v, error %d", events, e)
	}
	for n, want := range [][]api.Event{nil, nil, prints(0, 5), ends(prints(0, 5), 0), ends(prints(0, 5), 0)} {
		if events, e := rtl.Run(l, f, make([]int, n)); e != api.OK || !slices.Equal(events, want) {
			t.Errorf("P18.2: %d picks: %v, error %d", n, events, e)
		}
	}
}

func TestConstants(t *testing.T) {
	alone(t, ends(prints(0, 0, 0, 0, 0, 0), 0), show(0), show(1), show(2), show(3), show(4)) // all temps are 0 at first
	alone(t, ends(prints(0, math.MinInt64, math.MaxInt64, -1), 0), constant(0, math.MinInt64), constant(4, math.MaxInt64), show(0), show(4), constant(0, -1), show(0))
	alone(t, ends(prints(0, 7, 7, 8, 7), 0), constant(1, 7), api.Op{Op: api.OpCopy, D: 2, A: 1}, show(1), show(2), constant(1, 8), show(1), show(2), api.Op{Op: api.OpCopy, D: 3, A: 3})
}

func TestBin(t *testing.T) {
	for _, c := range []struct {
		what       int
		a, b, want int64
	}{
		{api.ADD, math.MaxInt64, 1, math.MinInt64}, {api.SUB, 2, 5, -3}, {api.MUL, -3, 4, -12}, {api.DIV, -7, 2, -3}, {api.REM, -7, 2, -1}, {api.DIV, math.MinInt64, -1, math.MinInt64}, {api.REM, math.MinInt64, -1, 0},
		{api.AND, 12, 10, 8}, {api.OR, 12, 10, 14}, {api.XOR, 12, 10, 6}, {api.SHL, 1, 65, 2}, {api.SAR, -8, 65, -4}, {api.EQ, 3, 3, 1}, {api.NE, 3, 3, 0}, {api.LT, -1, 0, 1}, {api.LE, 1, 0, 0},
	} {
		alone(t, ends(prints(0, c.want, c.a, c.b), 0), constant(1, c.a), constant(2, c.b), bin(c.what, 0, 1, 2), show(0), show(1), show(2))
		alone(t, ends(prints(0, c.want), 0), constant(1, c.a), constant(2, c.b), bin(c.what, 1, 1, 2), show(1)) // D may be A
		alone(t, ends(prints(0, c.want), 0), constant(1, c.a), constant(2, c.b), bin(c.what, 2, 1, 2), show(2)) // or B
	}
	for _, what := range []int{api.DIV, api.REM} {
		alone(t, faults(prints(0, 4), 0, 1), constant(1, 4), show(1), bin(what, 1, 1, 0), show(1))
	}
}

func TestGlobals(t *testing.T) {
	alone(t, ends(prints(0, 0, 5, 0), 0), load(1, "x", -1), show(1), constant(2, 5), store("x", -1, 2), load(3, "x", -1), show(3), load(4, "y", -1), show(4))
	alone(t, ends(prints(0, 0, 6, 7), 0), constant(0, 2), constant(1, 6), store("a", 0, 1), constant(2, 1), constant(3, 7), store("a", 2, 3), load(4, "a", 4), show(4), load(4, "a", 0), show(4), load(4, "a", 2), show(4))
	for name, n := range map[string]int64{"a": 3, "b": 1} {
		for _, at := range []int64{math.MinInt64, -1, n, n + 1, 1 << 32, math.MaxInt64} {
			alone(t, faults(prints(0, at), 0, 2), constant(1, at), show(1), load(1, name, 1), show(1))
			alone(t, faults(nil, 0, 2), constant(1, at), store(name, 1, 0), show(1))
		}
		alone(t, ends(prints(0, 9), 0), constant(1, n-1), constant(0, 9), store(name, 1, 0), load(2, name, 1), show(2))
	}
}

func TestTurns(t *testing.T) {
	alone(t, ends(prints(0, 1, 1), 0), constant(0, 1), jump(3), constant(0, 2), show(0), show(0))
	alone(t, ends(prints(0, 0), 0), unless(0, 2), constant(0, 2), show(0))
	alone(t, ends(prints(0, 2), 0), constant(0, -1), unless(0, 3), constant(0, 2), show(0))
	alone(t, ends(prints(0, 3, 2, 1), 0), constant(0, 3), constant(1, 1), unless(0, 6), show(0), bin(api.SUB, 0, 0, 1), jump(2))
	m := made(t, with(map[string][]api.Op{"t": {jump(0)}, "u": {unless(0, 0)}}))
	for range 1000 {
		if !m.Do(0) || !m.Do(1) {
			t.Fatal("P18.2: a jump did nothing")
		}
	}
}

func TestTraps(t *testing.T) {
	for n := int64(1); n <= 127; n++ {
		m := alone(t, faults(prints(0, 0), 0, n), show(0), trap(n), show(0))
		if m.Do(0) || m.Do(-1) {
			t.Error("P18.2: a thread goes on behind its fault")
		}
	}
	wantAlone(t, map[string][]api.Op{"t": {call(-1, "f0"), show(0)}, "f0": {trap(9)}}, faults(nil, 0, 9))
}

func TestCalls(t *testing.T) {
	code := map[string][]api.Op{
		"f0": {constant(0, 5)},
		"f1": {show(0), show(1), constant(1, 10), bin(api.ADD, 0, 0, 1)},
		"f2": {show(0), show(1), show(2), call(2, "f1", 1), show(2), show(1), bin(api.SUB, 0, 2, 0)},
		"g5": {show(0), show(1), show(2), show(3), show(4)},
		"t":  {constant(1, 1), constant(2, 2), call(3, "f0"), show(3), call(-1, "f0"), show(0), call(0, "f1", 2), show(0), show(1), call(1, "f2", 1, 2), show(1), call(2, "g5", 2, 1, 2, 0), show(2)},
	}
	wantAlone(t, code, ends(prints(0, 5, 0, 2, 0, 12, 1, 1, 2, 0, 2, 0, 12, 2, 11, 2, 11, 2, 12, 0, 2), 0))
	wantAlone(t, map[string][]api.Op{"f0": {constant(1, 4), constant(2, 5), ret(2)}, "t": {call(3, "f0"), show(3), show(2)}}, ends(prints(0, 5, 0), 0))
	// Ret may stand anywhere; the answer may go into a temp that was an argument, or nowhere.
	wantAlone(t, map[string][]api.Op{"f1": {unless(0, 3), constant(0, 7), ret(0), constant(0, 8), ret(0)}, "t": {call(0, "f1", 0), show(0), call(0, "f1", 0), show(0), call(-1, "f1", 1), show(0), show(1)}}, ends(prints(0, 8, 7, 7, 0), 0))
}

// Temps are a frame's own, whichever threads are in the same function.
func TestTempsAreAFramesOwn(t *testing.T) {
	m := made(t, with(map[string][]api.Op{
		"f1": {constant(1, 1), bin(api.ADD, 0, 0, 1), bin(api.ADD, 2, 2, 0), show(0), show(2)},
		"t":  {constant(0, 10), constant(2, 3), call(1, "f1", 0), show(0), show(1), show(2), call(1, "f1", 1), show(1)},
		"u":  {constant(0, 20), constant(2, 4), call(1, "f1", 0), show(0), show(1), show(2), call(1, "f1", 1), show(1)},
	}))
	r := rand.New(rand.NewSource(3))
	for range 1000 {
		m.Do(r.Intn(2))
	}
	for thread, want := range [][]api.Event{ends(prints(0, 11, 11, 10, 11, 3, 12, 12, 12), 0), ends(prints(1, 21, 21, 20, 21, 4, 22, 22, 22), 1)} {
		var own []api.Event
		for _, v := range m.Events() {
			if v.Thread == thread {
				own = append(own, v)
			}
		}
		if !slices.Equal(own, want) {
			t.Errorf("P18.3: %v; want %v", own, want)
		}
	}
}

// What a thread does hangs on others through globals and atomic objects alone: without these, whatever the picks, each does the same.
func TestThreadsAreApart(t *testing.T) {
	l := reads(t, front...)
	for seed := range int64(300) {
		r := rand.New(rand.NewSource(seed))
		f := makeFuncs(r)
		for _, one := range f {
			for i, o := range one.Code {
				if o.Name != "" && o.Op != api.OpCall && o.Op != api.OpPrint {
					one.Code[i] = constant(0, int64(i))
				}
			}
		}
		a, e := rtl.New(l, f)
		if e != api.OK {
			t.Fatalf("P18.1: error %d", e)
		}
		b, _ := rtl.New(l, f)
		for range 150 {
			a.Do(0)
		}
		for range 150 {
			a.Do(1)
		}
		counts := [2]int{}
		for counts[0] < 150 || counts[1] < 150 {
			if k := r.Intn(2); counts[k] < 150 {
				counts[k]++
				b.Do(k)
			}
		}
		if !slices.Equal(byThread(a), byThread(b)) {
			t.Fatalf("P18.3: seed %d: %v, %v", seed, a.Events(), b.Events())
		}
	}
}

func byThread(m *rtl.Machine) []api.Event {
	l := m.Events()
	slices.SortStableFunc(l, func(a, b api.Event) int { return a.Thread - b.Thread })
	return l
}

func TestAtomicObjects(t *testing.T) {
	m := alone(t, ends(prints(0, -1, 1, 1, 0, 5, 6, -1, 0, 1, 5), 0), get(1, "q"), show(1), constant(2, 5), put(1, "q", 2), show(1), constant(3, 6), put(1, "q", 3), show(1), put(1, "q", 2), show(1),
		get(4, "q"), show(4), get(4, "q"), show(4), get(4, "q"), show(4), constant(0, -9), put(4, "q", 0), show(4), put(4, "r", 2), show(4), put(-1, "q", 2), get(-1, "q"), show(2))
	want := []api.Act{{Do: api.DoGet, Name: "q", Answer: -1}, {Do: api.DoPrint, Arg: -1}, {Do: api.DoPut, Name: "q", Arg: 5, Answer: 1}, {Do: api.DoPrint, Arg: 1}, {Do: api.DoPut, Name: "q", Arg: 6, Answer: 1}, {Do: api.DoPrint, Arg: 1}, {Do: api.DoPut, Name: "q", Arg: 5}, {Do: api.DoPrint},
		{Do: api.DoGet, Name: "q", Answer: 5}, {Do: api.DoPrint, Arg: 5}, {Do: api.DoGet, Name: "q", Answer: 6}, {Do: api.DoPrint, Arg: 6}, {Do: api.DoGet, Name: "q", Answer: -1}, {Do: api.DoPrint, Arg: -1}, {Do: api.DoPut, Name: "q", Arg: -9}, {Do: api.DoPrint},
		{Do: api.DoPut, Name: "r", Arg: 5, Answer: 1}, {Do: api.DoPrint, Arg: 1}, {Do: api.DoPut, Name: "q", Arg: 5, Answer: 1}, {Do: api.DoGet, Name: "q", Answer: 5}, {Do: api.DoPrint, Arg: 5}}
	if !slices.Equal(m.Acts(), want) {
		t.Errorf("P18.2: %+v; want %+v", m.Acts(), want)
	}
}

// Where an operation must wait or may not be, nothing happens, and the thread is where it was.
func TestWaits(t *testing.T) {
	m := made(t, with(map[string][]api.Op{"t": {acq("l"), acq("k"), rel("l"), show(0), rel("l")}, "u": {show(0), acq("l"), rel("l"), rel("k")}}))
	for i, want := range []struct {
		pick int
		did  bool
	}{{0, true}, {1, true}, {1, false}, {1, false}, {0, true}, {1, false}, {0, true}, {1, true}, {0, true}, {0, false}, {1, true}, {1, false}, {0, false}, {0, false}, {1, false}} {
		if did := m.Do(want.pick); did != want.did {
			t.Errorf("P18.2: %d: %v", i, did)
		}
	}
	want := []api.Act{{Do: api.DoAcquire, Name: "l"}, {Thread: 1, Do: api.DoPrint}, {Do: api.DoAcquire, Name: "k"}, {Do: api.DoRelease, Name: "l"}, {Thread: 1, Do: api.DoAcquire, Name: "l"}, {Do: api.DoPrint}, {Thread: 1, Do: api.DoRelease, Name: "l"}}
	if !slices.Equal(m.Acts(), want) || !slices.Equal(m.Events(), append(prints(1, 0), prints(0, 0)...)) {
		t.Errorf("P18.2: %+v, %v; want %+v", m.Acts(), m.Events(), want)
	}
	// A lock is not taken twice, nor given back by one that has it not.
	for _, l := range [][]api.Op{{acq("l"), acq("l")}, {acq("k"), rel("l")}, {rel("k")}} {
		m := alone(t, nil, append(l, show(0))...)
		if len(m.Acts()) != len(l)-1 || m.Do(0) {
			t.Errorf("P18.2: %+v: %v", l, m.Acts())
		}
	}
}

// A lock's operation turns no temp, and what an operation does not have counts for nothing when it is done, too.
func TestUnnamedFieldsDoNothing(t *testing.T) {
	m := alone(t, ends(prints(0, 7, 7), 0), constant(1, 7), api.Op{Op: api.OpAcq, Name: "l", D: 1, B: 1, N: 3}, api.Op{Op: api.OpRel, Name: "l", D: 1, A: 1, To: 3}, show(1), api.Op{Op: api.OpPrint, A: 1, Name: "l", D: 1, B: 3, N: 9}, api.Op{Op: api.OpGet, Name: "q", D: 0, A: 1, B: 1, N: 5})
	if want := []api.Act{{Do: api.DoAcquire, Name: "l"}, {Do: api.DoRelease, Name: "l"}, {Do: api.DoPrint, Arg: 7}, {Do: api.DoPrint, Arg: 7}, {Do: api.DoGet, Name: "q", Answer: -1}}; !slices.Equal(m.Acts(), want) {
		t.Errorf("P18.2: %+v; want %+v", m.Acts(), want)
	}
	alone(t, ends(prints(0, 7, 2), 0), constant(1, 7), api.Op{Op: api.OpConst, D: 0, A: 1, B: 1, N: 2, Name: "x"}, show(1), show(0), api.Op{Op: api.OpEnd, N: 5, A: 1})
}

// What a thread that has a fault holds it holds on.
func TestFaultHolds(t *testing.T) {
	m := made(t, with(map[string][]api.Op{"t": {acq("l"), bin(api.DIV, 0, 0, 0)}, "u": {acq("l")}}))
	if !m.Do(0) || m.Do(1) || !m.Do(0) || m.Do(1) || m.Do(0) || !slices.Equal(m.Events(), faults(nil, 0, 1)) {
		t.Errorf("P18.2: %v", m.Events())
	}
}

// Threads are numbered module by module; picks are taken by their rest.
func TestPicks(t *testing.T) {
	l := reads(t, "thread d { } int f() rank 1 { } thread a { }", "thread c { }")
	f := []api.Func{{Name: "a", Temps: 1, Code: []api.Op{constant(0, 2), show(0), {Op: api.OpEnd}}}, {Name: "f", Temps: 1, Code: []api.Op{ret(0)}}, {Name: "c", Temps: 1, Code: []api.Op{constant(0, 3), show(0), {Op: api.OpEnd}}}, {Name: "d", Temps: 1, Code: []api.Op{constant(0, 1), show(0), {Op: api.OpEnd}}}}
	for pick, want := range map[int]int{0: 0, 1: 1, 2: 2, 3: 0, 301: 1, -1: 0, -2: 1, -3: 2, -4: 0, math.MaxInt: math.MaxInt % 3, math.MinInt: math.MaxInt % 3, math.MinInt + 1: (math.MaxInt - 1) % 3} {
		if events, e := rtl.Run(l, f, []int{pick, pick}); e != api.OK || !slices.Equal(events, prints(want, int64(want+1))) {
			t.Errorf("P18.2: pick %d: %v, error %d; want thread %d", pick, events, e, want)
		}
	}
}

// One operation each time, and no more.
func TestOneOperation(t *testing.T) {
	for _, c := range []struct {
		want int
		code map[string][]api.Op
	}{
		{1, nil},
		{3, map[string][]api.Op{"t": {constant(0, 1), show(0)}}},
		{3, map[string][]api.Op{"t": {call(0, "f0")}}},
		{4, map[string][]api.Op{"t": {call(0, "f1", 0)}, "f1": {show(0)}}},
		{5, map[string][]api.Op{"t": {call(0, "f2", 0, 0)}, "f2": {call(0, "f1", 0)}}},
		{2, map[string][]api.Op{"t": {jump(1)}}},
		{1, map[string][]api.Op{"t": {trap(1), show(0)}}},
	} {
		m, n := made(t, with(c.code)), 0
		for m.Do(0) {
			n++
		}
		if n != c.want || m.Do(0) {
			t.Errorf("P18.2: %+v: %d operations; want %d", c.code, n, c.want)
		}
	}
}

// spoil overwrites a list with all its spare room.
func spoil[T any](l []T, with T) {
	l = l[:cap(l)]
	for i := range l {
		l[i] = with
	}
}

// What is handed in is not changed and not kept.
func TestNothingIsKept(t *testing.T) {
	for seed := range int64(100) {
		r := rand.New(rand.NewSource(seed))
		l, twins := reads(t, front...), reads(t, front...)
		f, twin := makeFuncs(rand.New(rand.NewSource(seed))), makeFuncs(rand.New(rand.NewSource(seed)))
		m, _ := rtl.New(l, f)
		same, _ := rtl.New(twins, twin)
		if e := rtl.Check(l, f); e != api.OK || !reflect.DeepEqual(f, twin) || !reflect.DeepEqual(l, twins) {
			t.Fatalf("R5: what was handed in is changed: error %d", e)
		}
		for _, one := range f {
			for _, o := range one.Code {
				spoil(o.Args, 99)
			}
			spoil(one.Code, api.Op{Op: 99})
		}
		spoil(f, api.Func{})
		for _, one := range l {
			spoil(one.Decls, api.Decl{})
		}
		spoil(l, api.Module{})
		picks := make([]int, 0, 200)
		for range 200 {
			pick := somePick(r)
			picks = append(picks, pick)
			if m.Do(pick) != same.Do(pick) {
				t.Fatalf("R5: seed %d: what was handed in is kept", seed)
			}
		}
		kept := slices.Clone(picks)
		events, e := rtl.Run(twins, twin, picks)
		if e != api.OK || !slices.Equal(m.Events(), same.Events()) || !slices.Equal(m.Acts(), same.Acts()) || !slices.Equal(events, m.Events()) || !slices.Equal(picks, kept) || !reflect.DeepEqual(twins, reads(t, front...)) {
			t.Fatalf("R5: seed %d: %v, %v", seed, m.Events(), same.Events())
		}
	}
}

// What is answered is new memory, its spare room too.
func TestAnswersAreNew(t *testing.T) {
	m := made(t, with(map[string][]api.Op{"t": {show(0), put(1, "q", 0), show(1), show(0)}}))
	for range 3 {
		m.Do(0)
	}
	events, acts := m.Events(), m.Acts()
	spoil(m.Events(), api.Event{Kind: 99})
	spoil(m.Acts(), api.Act{Do: 99})
	m.Do(0)
	want := []api.Act{{Do: api.DoPrint}, {Do: api.DoPut, Name: "q", Answer: 1}, {Do: api.DoPrint, Arg: 1}, {Do: api.DoPrint}}
	if !slices.Equal(m.Events(), prints(0, 0, 1, 0)) || !slices.Equal(m.Acts(), want) || !slices.Equal(events, prints(0, 0, 1)) || !slices.Equal(acts, want[:3]) {
		t.Errorf("R5: %v, %v, %v, %v", m.Events(), m.Acts(), events, acts)
	}
}

// Machines are apart.
func TestMachinesAreApart(t *testing.T) {
	f := with(map[string][]api.Op{"t": {acq("l"), constant(1, 5), store("x", -1, 1), put(0, "q", 1), show(1)}, "u": {acq("l"), load(1, "x", -1), show(1), get(1, "q"), show(1)}})
	a, b := made(t, f), made(t, f)
	for range 5 {
		a.Do(0)
	}
	for range 5 {
		b.Do(1)
	}
	if !slices.Equal(a.Events(), prints(0, 5)) || !slices.Equal(b.Events(), prints(1, 0, -1)) || len(b.Acts()) != 4 {
		t.Errorf("R6: %v, %v, %v", a.Events(), b.Events(), b.Acts())
	}
}

// The greatest functions are run, too, and many picks.
func TestGreatFunctions(t *testing.T) {
	all := with(nil)
	for i, f := range all {
		if f.Name == "t" {
			all[i].Temps = 400
			all[i].Code = slices.Repeat([]api.Op{constant(399, 3)}, 19997)
			all[i].Code = append(all[i].Code, show(399), call(-1, "f9"), jump(0))
		}
	}
	events, e := rtl.Run(reads(t, front...), all, make([]int, 1<<20))
	if want := (1<<20 + 2) / 20001; e != api.OK || len(events) != want || !slices.Equal(events[:2], prints(0, 3, 3)) {
		t.Errorf("P18.2: %d events, error %d; want %d", len(events), e, want)
	}
}
