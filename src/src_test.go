package src_test

import (
	"math"
	"math/rand"
	"reflect"
	"slices"
	"strconv"
	"strings"
	"testing"

	"cotter/api"
	"cotter/check"
	"cotter/src"
)

// The calls have the types that the chapter lists.
var (
	_ func(api.Module) ([]api.Body, api.Errno)           = src.Flatten
	_ func(...api.Module) (*src.Machine, api.Errno)      = src.New
	_ func([]api.Module, []int) ([]api.Event, api.Errno) = src.Run
)

func prints(thread int, l ...int64) []api.Event {
	var all []api.Event
	for _, n := range l {
		all = append(all, api.Event{Thread: thread, Kind: api.EvPrint, N: n})
	}
	return all
}

func ends(l []api.Event, thread int) []api.Event {
	return append(l, api.Event{Thread: thread, Kind: api.EvEnd})
}

func faults(l []api.Event, thread int, n int64) []api.Event {
	return append(l, api.Event{Thread: thread, Kind: api.EvFault, N: n})
}

func made(t *testing.T, l ...string) *src.Machine {
	t.Helper()
	m, e := src.New(reads(t, l...)...)
	if e != api.OK {
		t.Fatalf("P17.2: %.200q: error %d", l, e)
	}
	return m
}

// alone lets the first thread go on till it can't.
func alone(t *testing.T, s string) []api.Event {
	t.Helper()
	m := made(t, s)
	for range 100000 {
		if !m.Do(0) {
			return m.Events()
		}
	}
	t.Fatalf("%.200q: no end", s)
	return nil
}

func wantAlone(t *testing.T, s string, want []api.Event) {
	t.Helper()
	if l := alone(t, s); !slices.Equal(l, want) {
		t.Errorf("P17.2: %.300q: %v; want %v", s, l, want)
	}
}

const counter = "lock l; int x by l; thread t { with l { x = x + 1; print x; } } thread u { with l { x = x + 1; print x; } }"

func TestExample(t *testing.T) {
	l, e := src.Run(reads(t, counter), []int{0, 1, 0, 0, 0, 0, 1, 1, 1})
	want := append(ends(prints(0, 1), 0), prints(1, 2)...)
	if e != api.OK || !slices.Equal(l, want) {
		t.Errorf("%v, error %d; want %v", l, e, want)
	}
}

// The whole's examples, as far as sources show them.
func TestWholeExamples(t *testing.T) {
	wantAlone(t, "thread t { print 7 / 2; print 1 / 0; }", faults(prints(0, 3), 0, 1))
	wantAlone(t, "lock l; int a[3] by l; thread t { with l { print a[2]; print a[3]; } }", faults(prints(0, 0), 0, 2))
	wantAlone(t, "queue q 1; thread t { var v = 0; v = put(q, 5); print v; v = put(q, 6); print v; v = get(q); print v; v = get(q); print v; }", ends(prints(0, 1, 0, 5, -1), 0))
}

func TestErrors(t *testing.T) {
	for _, c := range []struct {
		want api.Errno
		l    []string
	}{
		{api.ErrLarge, nil},
		{api.ErrLarge, []string{""}},
		{api.ErrLarge, []string{"thread a { } thread b { } thread c { }", "thread d { } thread e { }"}},
		{api.ErrUndefined, []string{"extern lock l; thread t { with l { } }"}},
		{api.ErrInterface, []string{"extern lock l; thread t { with l { } }", "queue l 1;"}},
		{api.ErrDuplicate, []string{"lock l; thread t { }", "lock l;"}},
		{api.ErrDuplicate, []string{"lock l; lock l; thread t { }"}},
		{api.ErrType, []string{"thread t { x = 1; }"}},
		{api.ErrArg, []string{"thread t { }", "", "", "", "", "", "", "", ""}},
	} {
		l := reads(t, c.l...)
		if e := check.Fit(l...); e != c.want {
			t.Fatalf("%q: error %d", c.l, e)
		}
		m, e := src.New(l...)
		if e != c.want || m != nil {
			t.Errorf("P17.2: %q: error %d; want %d", c.l, e, c.want)
		}
		wantNothing(t, m)
		if events, e := src.Run(l, []int{0, 1, 2}); e != c.want || len(events) != 0 {
			t.Errorf("P17.4: %q: %v, error %d; want %d", c.l, events, e, c.want)
		}
	}
	for _, w := range wrong() {
		if m, e := src.New(w); e != api.ErrArg || m != nil {
			t.Errorf("P17.2: %+v: error %d", w, e)
		}
		if m, e := src.New(read(t, "thread u { }"), w); e != api.ErrArg || m != nil {
			t.Errorf("P17.2: %+v: error %d", w, e)
		}
	}
}

// wantNothing: what New answers beside an error has no threads, and does nothing.
func wantNothing(t *testing.T, m *src.Machine) {
	t.Helper()
	for _, pick := range []int{0, -1, 5, math.MinInt} {
		if a, on := m.Next(pick); m.Do(pick) || on || a != (api.Act{}) {
			t.Errorf("R1: no machine goes on: %v", a)
		}
	}
	if len(m.Threads()) != 0 || len(m.Events()) != 0 || len(m.Global("x")) != 0 {
		t.Error("R1: no machine has something")
	}
}

// least is the least number there is.
const least = "(-9223372036854775807 - 1)"

func TestExpressions(t *testing.T) {
	for e, want := range map[string]int64{
		"0": 0, "9223372036854775807": math.MaxInt64, "-5": -5, "--5": 5, "-0": 0, "!0": 1, "!1": 0, "!5": 0, "!-5": 0, "!!5": 1, "-!0": -1, "-" + least: math.MinInt64,
		"2 + 3": 5, "9223372036854775807 + 1": math.MinInt64, "2 - 3": -1, least + " - 1": math.MaxInt64, "3 * -4": -12, "4611686018427387904 * 2": math.MinInt64, "4611686018427387904 * 4": 0,
		"7 / 2": 3, "-7 / 2": -3, "7 / -2": -3, "7 % 2": 1, "-7 % 2": -1, "7 % -2": 1, least + " / -1": math.MinInt64, least + " % -1": 0, "0 / 5": 0,
		"12 & 10": 8, "12 | 10": 14, "12 ^ 10": 6, "-1 & 5": 5, "-1 ^ 0": -1, "1 << 3": 8, "1 << 64": 1, "1 << 65": 2, "1 << -1": math.MinInt64, "-8 >> 1": -4, "-8 >> 65": -4, "-1 >> 63": -1, "8 >> 64": 8, "1 << 63": math.MinInt64,
		"1 == 1": 1, "1 == 2": 0, "1 != 1": 0, "1 != 2": 1, "1 < 2": 1, "2 < 1": 0, "1 < 1": 0, "-1 < 0": 1, "1 <= 1": 1, "2 <= 1": 0, "0 <= 1": 1, "2 > 1": 1, "1 > 2": 0, "1 > 1": 0, "0 > -1": 1, "1 >= 1": 1, "1 >= 2": 0, "2 >= 1": 1, least + " < 1": 1, "9223372036854775807 > " + least: 1,
		"0 && 0": 0, "0 && 5": 0, "5 && 0": 0, "5 && 7": 1, "-1 && -2": 1, "0 || 0": 0, "0 || 5": 1, "5 || 0": 1, "7 || 5": 1, "0 || -1": 1, "1 && 0 || 2": 1, "1 || 0 && 0": 1,
		"0 && 1 / 0": 0, "1 || 1 / 0": 1, "7 || 1 % 0": 1, "0 && (1 / 0 || 1)": 0, "(1 || 1 / 0) && 3": 1, "1 - 2 - 3": -4, "2 + 3 * 4": 14, "(2 + 3) * 4": 20, "100 / 10 / 5": 2, "1 << 2 + 1": 8, "-2 * 3 % 4": -2, "1 < 2 == 1": 1, "3 & 2 == 2": 1, "1 | 6 ^ 2 & 3": 5,
	} {
		wantAlone(t, "thread t { print "+e+"; }", ends(prints(0, want), 0))
		wantAlone(t, "thread t { var v = "+e+"; if (v == ("+e+")) { print v; } }", ends(prints(0, want), 0))
	}
}

// The first fault that is met ends an expression, and the thread.
func TestFaults(t *testing.T) {
	const front = "lock l; queue q 3; int a[2] by l; int x by l; int f(p, r) rank 1 { return p; } int g() rank 2 { print 4; print 5 / 0; return 1; } "
	for s, want := range map[string]int64{
		"print 1 / 0;": 1, "print 1 % 0;": 1, "print 0 / 0;": 1, "print a[2];": 2, "print a[-1];": 2, "print a[9223372036854775807];": 2, "print a[" + least + "];": 2, "print a[1 << 32];": 2, "print a[a[1] - 1];": 2, "print a[1 / 0];": 1,
		"print -(1 / 0);": 1, "print !a[2];": 2, "print 1 / 0 + a[2];": 1, "print a[2] + 1 / 0;": 2, "print 1 / 0 > a[2];": 1, "print a[2] > 1 / 0;": 2, "print 1 / 0 >= a[2];": 1, "print a[2] >= 1 / 0;": 2, "print 1 / 0 && a[2];": 1, "print 1 && a[2];": 2, "print 0 || 1 / 0;": 1, "print a[2] || 1 / 0;": 2, "print a[2] / 0;": 2, "print (0 || 0) || 2 % 0;": 1,
		"x = 1 / 0;": 1, "x = a[2];": 2, "a[2] = 1;": 2, "a[-1] = 1;": 2, "a[" + least + "] = 1;": 2, "a[9223372036854775807] = 1;": 2, "a[2] = 1 / 0;": 1, "a[1 / 0] = a[2];": 1, "a[a[2]] = 1 / 0;": 2, "a[0] = 1 / 0;": 1, "a[5] = a[5];": 2,
		"var v = 1 / 0;": 1, "var v = 3; v = a[2];": 2, "f(1 / 0, a[2]);": 1, "f(a[2], 1 / 0);": 2, "f(1, a[2]);": 2, "put(q, 1 / 0);": 1, "put(q, a[2]);": 2, "if (1 / 0) { }": 1, "if (a[2]) { } else { }": 2, "while (1 % 0) { }": 1, "while (a[-1]) { }": 2,
	} {
		whole := front + "thread t { print 3; with l { " + s + " print 9; } }"
		wantAlone(t, whole, faults(prints(0, 3), 0, want))
		m := made(t, whole)
		for m.Do(0) {
		}
		if !slices.Equal(m.Global("a"), []int64{0, 0}) || !slices.Equal(m.Global("x"), []int64{0}) {
			t.Errorf("P17.2: %q turned a global: %v, %v", s, m.Global("a"), m.Global("x"))
		}
	}
	wantAlone(t, front+"thread t { g(); print 6; }", faults(prints(0, 4), 0, 1))
	wantAlone(t, "int h(p) rank 0 { return 1 / p; } thread t { var v = 0; v = h(1); print v; v = h(0); print v; }", faults(prints(0, 1), 0, 1))
	wantAlone(t, "lock l; int one[1] by l; thread t { with l { one[0] = 5; print one[0]; print one[1]; } }", faults(prints(0, 5), 0, 2))
	wantAlone(t, "lock l; int big[64] by l; thread t { with l { big[63] = 5; print big[63]; big[64] = 1; } }", faults(prints(0, 5), 0, 2))
}

// A thread that has a fault does an operation by it; then it has ended, and holds on what it held.
func TestFaultHolds(t *testing.T) {
	m := made(t, "lock l; int x by l; thread t { with l { x = 4; x = 1 / 0; } } thread u { print 1; with l { } }")
	for i, want := range []struct {
		pick int
		did  bool
	}{{0, true}, {0, true}, {1, true}, {1, false}, {0, true}, {0, false}, {0, false}, {1, false}, {-1, false}, {-2, false}} {
		if did := m.Do(want.pick); did != want.did {
			t.Errorf("P17.2: %d: %v", i, did)
		}
	}
	if want := faults(prints(1, 1), 0, 1); !slices.Equal(m.Events(), want) || !slices.Equal(m.Global("x"), []int64{4}) {
		t.Errorf("P17.4: %v, %v", m.Events(), m.Global("x"))
	}
	if a, on := m.Next(0); on || a != (api.Act{}) {
		t.Errorf("P17.3: %v, %v", a, on)
	}
	if a, on := m.Next(1); !on || a != (api.Act{Thread: 1, Do: api.DoAcquire, Name: "l", Back: -1}) {
		t.Errorf("P17.3: %v, %v", a, on)
	}
}

func TestStatements(t *testing.T) {
	wantAlone(t, "thread t { }", ends(nil, 0))
	wantAlone(t, "thread t { var v = 3; while (v) { print v; v = v - 1; } if (v) { print 8; } else { print 9; } }", ends(prints(0, 3, 2, 1, 9), 0))
	wantAlone(t, "thread t { if (2) { print 1; } else { print 2; } if (0) { print 3; } if (-1) { print 4; } if (1) { } else { print 5; } if (0) { } else { print 6; } }", ends(prints(0, 1, 4, 6), 0))
	wantAlone(t, "thread t { var i = 0; while (i < 3) { var j = 0; while (j < i) { print i * 10 + j; j = j + 1; } i = i + 1; } }", ends(prints(0, 10, 20, 21), 0))
	wantAlone(t, "thread t { if (0) { var v = 7; } print v; v = 2; print v; }", ends(prints(0, 0, 2), 0))                             // a variable is 0 at first
	wantAlone(t, "thread t { var i = 3; while (i) { if (i == 2) { var w = 5; } print w; i = i - 1; } }", ends(prints(0, 0, 5, 5), 0)) // and its body's, not its block's
	wantAlone(t, "lock l; int a[3] by l; int x by l; thread t { with l { a[1] = 4; a[2] = a[1] + 1; x = a[a[1] - 2]; print x; print a[0]; print a[1]; print a[2]; } }", ends(prints(0, 5, 0, 4, 5), 0))
	wantAlone(t, "lock l; ticket k; int x by l; int y by k; thread t { with l { x = 1; with k { y = x + 1; x = y + 1; print x; } print x; } with k { print y; } }", ends(prints(0, 3, 3, 2), 0))
}

func TestCalls(t *testing.T) {
	wantAlone(t, "int f(a, b) rank 0 { if (a < b) { return b - a; } } thread t { var v = 5; v = f(1, 4); print v; v = f(4, 1); print v; f(0, 0); print v; }", ends(prints(0, 3, 0, 0), 0))
	wantAlone(t, "int f(a, b, c, d) rank 0 { print a; print b; print c; print d; a = 9; d = 8; return a + d; } thread t { var a = 1; var v = 0; v = f(a, a + 1, 3, 4); print a; print v; f(5, 6, 7, 8); print v; }", ends(prints(0, 1, 2, 3, 4, 1, 17, 5, 6, 7, 8, 17), 0))
}

// Frames are a call's own: variables are 0 at first, each time.
func TestFrames(t *testing.T) {
	wantAlone(t, "int f(p) rank 0 { if (p) { var v = 7; } print v; v = v + p; print v; } thread t { f(1); f(0); f(2); }", ends(prints(0, 7, 8, 0, 0, 7, 9), 0))
	const chain = "int f0(p) rank 0 { return p; } int f1(p) rank 1 { var v = 1; v = f0(p + 1); return v + p; } int f2(p) rank 2 { var v = 5; f1(p); print v; v = f1(p); return v * 2; } "
	wantAlone(t, chain+"thread t { var v = 0; v = f2(10); print v; }", ends(prints(0, 5, 42), 0))
	wantAlone(t, chain+"thread t { var v = 3; f2(0); print v; }", ends(prints(0, 5, 3), 0))
	// A return leaves blocks that are open.
	wantAlone(t, "int f(p) rank 9 { while (1) { if (p > 3) { return p; } else { while (2) { p = p + 1; if (p > 2) { return -p; } } } } } thread t { var v = 0; v = f(0); print v; v = f(4); print v; }", ends(prints(0, -3, 4), 0))
	all, last := "", "0"
	for i := range 10 {
		name := "f" + strconv.Itoa(i)
		call := ""
		if i > 0 {
			call = "v = f" + strconv.Itoa(i-1) + "(p + 1); "
		}
		all += "int " + name + "(p) rank " + strconv.Itoa(i) + " { var v = p; " + call + "print p; return v; } "
		last = name
	}
	wantAlone(t, all+"thread t { var v = 0; v = "+last+"(0); print v; }", ends(prints(0, 9, 8, 7, 6, 5, 4, 3, 2, 1, 0, 9), 0))
}

func TestQueues(t *testing.T) {
	const front = "queue q 2; queue r 1; thread t { var v = 7; "
	wantAlone(t, front+"v = put(q, 5); print v; v = put(q, 6); print v; v = put(q, 8); print v; v = put(r, 9); print v; v = get(q); print v; v = get(r); print v; v = get(q); print v; v = get(q); print v; }", ends(prints(0, 1, 1, 0, 1, 5, 9, 6, -1), 0))
	wantAlone(t, front+"v = put(q, -1); print v; v = put(q, 0); print v; v = get(q); print v; }", ends(prints(0, 0, 1, 0), 0))
	wantAlone(t, front+"put(q, 5); print v; put(q, 6); get(q); print v; v = get(q); print v; }", ends(prints(0, 7, 7, 6), 0)) // answers that nobody takes
	m := made(t, "queue q 1; thread t { put(q, 4); } thread u { var v = 0; v = get(q); print v; v = get(q); print v; } thread w { print 1; }")
	for _, pick := range []int{1, 1, 1, 0, 1, 1, 1} {
		m.Do(pick)
	}
	if want := ends(prints(1, -1, 4), 1); !slices.Equal(m.Events(), want) {
		t.Errorf("P17.2: %v; want %v", m.Events(), want)
	}
}

// One operation each time, and no more.
func TestOneOperation(t *testing.T) {
	for s, want := range map[string]int{
		"thread t { }": 1, "thread t { print 1 + 2 * 3; }": 2, "thread t { if (1) { } }": 2, "thread t { if (1) { print 1; } else { print 2; } }": 4, "thread t { if (0) { print 1; } else { print 2; } }": 3,
		"thread t { if (1) { print 1; } }": 3, "thread t { if (1) { } else { print 2; } }": 3, "thread t { while (0) { } }": 2, "thread t { var v = 2; while (v) { v = v - 1; } }": 9,
		"lock l; thread t { with l { } }": 3, "int f() rank 1 { } thread t { f(); }": 3, "int f() rank 1 { return 5; } thread t { f(); }": 3, "int f(p) rank 1 { p = 2; return p; } thread t { var v = 1; v = f(v); print v; }": 6,
		"queue q 1; thread t { get(q); put(q, 1); }": 3, "thread t { print 1 / 0; print 2; }": 1,
	} {
		m, n := made(t, s), 0
		for m.Do(0) {
			n++
		}
		if n != want {
			t.Errorf("P17.2: %q: %d operations; want %d", s, n, want)
		}
		if m.Do(0) || m.Do(-1) || m.Do(math.MinInt) {
			t.Errorf("P17.2: %q goes on behind its end", s)
		}
	}
}

// A pick is taken by its rest by the number of threads; of below 0, -1 less it.
func TestPicks(t *testing.T) {
	const s = "thread a { print 0; } thread b { print 1; } thread c { print 2; }"
	for pick, want := range map[int]int{0: 0, 1: 1, 2: 2, 3: 0, 5: 2, 300: 0, 301: 1, -1: 0, -2: 1, -3: 2, -4: 0, -301: 0, -302: 1, math.MaxInt: math.MaxInt % 3, math.MinInt: math.MaxInt % 3, math.MinInt + 1: (math.MaxInt - 1) % 3} {
		m := made(t, s)
		act, on := m.Next(pick)
		if did := m.Do(pick); !did || !on || !slices.Equal(m.Events(), prints(want, int64(want))) || act != (api.Act{Thread: want, Do: api.DoPrint, Arg: int64(want), Back: -1}) {
			t.Errorf("P17.2: pick %d: %v, %v; want thread %d", pick, m.Events(), act, want)
		}
	}
}

// Threads are numbered module by module, in the order of their declarations.
func TestThreads(t *testing.T) {
	sources := []string{"lock l; thread d { print 1; } int f() rank 1 { } thread a { print 2; }", "", "thread c { print 3; } queue q 1; thread b { print 4; }"}
	m := made(t, sources...)
	if l := m.Threads(); !slices.Equal(l, []string{"d", "a", "c", "b"}) {
		t.Errorf("P17.2: %v", l)
	}
	for i := range 4 {
		m.Do(i)
	}
	var want []api.Event
	for i := range 4 {
		want = append(want, prints(i, int64(i+1))...)
	}
	if !slices.Equal(m.Events(), want) {
		t.Errorf("P17.2: %v", m.Events())
	}
	slices.Reverse(sources)
	if l := made(t, sources...).Threads(); !slices.Equal(l, []string{"c", "b", "d", "a"}) {
		t.Errorf("P17.2: %v", l)
	}
	// In a call a thread is still the one that it was.
	m = made(t, "int f() rank 1 { print 1; } thread t { f(); }")
	m.Do(0)
	if l := m.Threads(); !slices.Equal(l, []string{"t"}) {
		t.Errorf("P17.2: %v", l)
	}
}

// A thread that waits is where it was, and goes on when the lock is free. One waits for itself, too.
func TestWaits(t *testing.T) {
	m := made(t, counter)
	for i, want := range []struct {
		pick int
		did  bool
	}{{1, true}, {0, false}, {0, false}, {1, true}, {0, false}, {1, true}, {0, false}, {1, true}, {0, true}, {0, true}, {0, true}, {0, true}, {0, true}, {0, false}, {1, true}, {1, false}} {
		if did := m.Do(want.pick); did != want.did {
			t.Errorf("P17.2: %d: %v", i, did)
		}
	}
	want := ends(ends(append(prints(1, 1), prints(0, 2)...), 0), 1)
	if !slices.Equal(m.Events(), want) {
		t.Errorf("P17.2: %v; want %v", m.Events(), want)
	}
	m = made(t, "lock l; int f() rank 1 { with l { print 1; } } thread t { with l { f(); } }")
	if !m.Do(0) || !m.Do(0) || m.Do(0) || m.Do(0) || len(m.Events()) != 0 {
		t.Error("P17.2: a lock was taken twice")
	}
	if a, on := m.Next(0); !on || a != (api.Act{Do: api.DoAcquire, Name: "l", Back: -1}) {
		t.Errorf("P17.3: %v, %v", a, on)
	}
}

// What modules share they have under one name; variables are apart, though another module's global has that name.
func TestModules(t *testing.T) {
	l := []string{
		"extern lock l; extern int x by l; extern int f(1) with l rank 3; extern queue q 2; thread t { with l { x = 5; f(2); } put(q, 8); }",
		"lock l; int x by l; queue q 2; int hidden by l; int v by l; int f(p) with l rank 3 { x = x + p; hidden = 6; v = 3; return x; }",
		"extern lock l; extern int x by l; extern queue q 2; int g(hidden) rank 4 { hidden = hidden + 1; return hidden; } thread u { var v = 1; with l { print x; print v; } v = g(40); print v; v = get(q); print v; }",
	}
	m := made(t, l...)
	for _, name := range m.Threads() {
		for m.Do(slices.Index(m.Threads(), name)) {
		}
	}
	want := ends(append(ends(nil, 0), prints(1, 7, 1, 41, 8)...), 1)
	if !slices.Equal(m.Events(), want) || !slices.Equal(m.Global("hidden"), []int64{6}) || !slices.Equal(m.Global("v"), []int64{3}) {
		t.Errorf("P17.2: %v, %v, %v; want %v", m.Events(), m.Global("hidden"), m.Global("v"), want)
	}
}

func TestGlobal(t *testing.T) {
	m := made(t, "lock l; extern int e by l; int x by l; int a[3] by l; int one[1] by l; queue q 2; int f(p) rank 1 { } thread t { var w = 3; put(q, w); with l { x = 4; a[1] = 5; e = 6; one[0] = 7; } }", "extern lock l; int e by l;")
	for name, want := range map[string][]int64{"x": {0}, "a": {0, 0, 0}, "one": {0}, "e": {0}, "l": nil, "q": nil, "f": nil, "p": nil, "t": nil, "w": nil, "": nil, "X": nil} {
		if got := m.Global(name); !slices.Equal(got, want) {
			t.Errorf("P17.4: %s: %v; want %v", name, got, want)
		}
	}
	for m.Do(0) {
	}
	for name, want := range map[string][]int64{"x": {4}, "a": {0, 5, 0}, "one": {7}, "e": {6}, "l": nil, "q": nil, "w": nil} {
		if got := m.Global(name); !slices.Equal(got, want) {
			t.Errorf("P17.4: %s: %v; want %v", name, got, want)
		}
	}
}

// Next tells of each operation what others see of it.
func TestNext(t *testing.T) {
	m := made(t, "lock l; ticket k; queue q 1; int x by l; int a[2] by l; int f(p) rank 1 { return p; } thread idle { } thread t { var v = 1; v = f(2); if (v) { v = 3; } with k { with l { x = 4; a[1] = 5; put(q, x + a[1]); v = get(q); print v * 2; } } }")
	none := api.Act{Thread: 1, Back: -1}
	want := []api.Act{none, none, none, none, none,
		{Thread: 1, Do: api.DoAcquire, Name: "k", Back: -1}, {Thread: 1, Do: api.DoAcquire, Name: "l", Back: -1}, none, none,
		{Thread: 1, Do: api.DoPut, Name: "q", Arg: 9, Back: -1}, {Thread: 1, Do: api.DoGet, Name: "q", Back: -1}, {Thread: 1, Do: api.DoPrint, Arg: 18, Back: -1},
		{Thread: 1, Do: api.DoRelease, Name: "l", Back: -1}, {Thread: 1, Do: api.DoRelease, Name: "k", Back: -1}, none}
	for i, w := range want {
		for range 2 {
			if a, on := m.Next(1); !on || a != w {
				t.Errorf("P17.3: %d: %+v, %v; want %+v", i, a, on, w)
			}
		}
		if !m.Do(1) {
			t.Fatalf("P17.2: %d", i)
		}
	}
	for _, pick := range []int{1, 3, -2} {
		if a, on := m.Next(pick); on || a != (api.Act{}) {
			t.Errorf("P17.3: behind its end: %+v, %v", a, on)
		}
	}
	if a, on := m.Next(0); !on || a != (api.Act{Back: -1}) {
		t.Errorf("P17.3: %+v, %v", a, on)
	}
}

// Where what is put or printed has a fault, nothing is seen of it ahead, and nothing is changed.
func TestNextOfFaults(t *testing.T) {
	for _, s := range []string{"print 1 / 0;", "print a[2];", "put(q, 1 % 0);", "put(q, a[-1]);"} {
		m := made(t, "lock l; queue q 1; int a[2] by l; thread t { with l { "+s+" } }")
		m.Do(0)
		for range 3 {
			if a, on := m.Next(0); !on || a != (api.Act{Back: -1}) || len(m.Events()) != 0 {
				t.Errorf("P17.3: %q: %+v, %v", s, a, on)
			}
		}
		if !m.Do(0) || m.Do(0) || len(m.Events()) != 1 {
			t.Errorf("P17.2: %q: %v", s, m.Events())
		}
	}
}

// Next changes nothing: a machine that is asked all the time does what another one does.
func TestNextChangesNothing(t *testing.T) {
	for seed := range int64(150) {
		r := rand.New(rand.NewSource(seed))
		l := modules(t, r)
		a, _ := src.New(l...)
		b, _ := src.New(l...)
		for range 150 {
			for i := range len(a.Threads()) {
				a.Next(i)
			}
			if pick := somePick(r); a.Do(pick) != b.Do(pick) || !slices.Equal(a.Events(), b.Events()) {
				t.Fatalf("P17.3: seed %d", seed)
			}
		}
	}
}

// owners follows who holds which lock by what is seen.
type owners map[string]int

func (o owners) follow(a api.Act, did bool) {
	switch {
	case did && a.Do == api.DoAcquire:
		o[a.Name] = a.Thread + 1
	case did && a.Do == api.DoRelease:
		o[a.Name] = 0
	}
}

// No thread touches a global whose lock another one holds: what one writes is of a lock that it holds, and what others do turns nothing that a thread is to show.
func TestGlobalsAreGuarded(t *testing.T) {
	writes, shows := 0, 0
	for seed := range int64(500) {
		r := rand.New(rand.NewSource(seed))
		l := modules(t, r)
		m, _ := src.New(l...)
		held := owners{}
		for range 250 {
			pick := r.Intn(len(m.Threads()))
			before, acts := state(m, l), nexts(m)
			did := m.Do(pick)
			held.follow(acts[pick], did)
			for name, elements := range state(m, l) {
				if !slices.Equal(elements, before[name]) {
					writes++
					if held[by(l, name)] != pick+1 {
						t.Fatalf("P17.5: seed %d: thread %d turned %s", seed, pick, name)
					}
				}
			}
			for i, a := range nexts(m) {
				if i == pick {
					continue
				}
				if a != acts[i] {
					t.Fatalf("P17.5: seed %d: thread %d turned what %d does: %+v, %+v", seed, pick, i, acts[i], a)
				}
				if a.Do == api.DoPrint || a.Do == api.DoPut {
					shows++
				}
			}
		}
	}
	if writes < 500 || shows < 1000 {
		t.Errorf("too little was done: %d writes, %d to show", writes, shows)
	}
}

func state(m *src.Machine, l []api.Module) map[string][]int64 {
	all := map[string][]int64{}
	for _, one := range l {
		for _, d := range one.Decls {
			if d.Kind == api.DeclInt {
				all[d.Name] = m.Global(d.Name)
			}
		}
	}
	return all
}

func nexts(m *src.Machine) []api.Act {
	var l []api.Act
	for i := range len(m.Threads()) {
		a, _ := m.Next(i)
		l = append(l, a)
	}
	return l
}

func by(l []api.Module, name string) string {
	for _, d := range l[0].Decls {
		if d.Name == name {
			return d.By
		}
	}
	return ""
}

// Two operations of two threads may change places, if one of them is neither FlAcq, FlGet nor FlPut (nor FlRel, for which another one may wait).
func TestOrderOfOperations(t *testing.T) {
	swaps := 0
	for seed := range int64(300) {
		r := rand.New(rand.NewSource(seed))
		l := modules(t, r)
		var picks []int
		a, _ := src.New(l...)
		for range 120 {
			one, other := r.Intn(len(a.Threads())), r.Intn(len(a.Threads()))
			if act, on := a.Next(one); one != other && on && act.Do == 0 {
				b, _ := src.New(l...)
				for _, pick := range picks {
					b.Do(pick)
				}
				swaps++
				x, y := a.Do(one), a.Do(other)
				v, w := b.Do(other), b.Do(one)
				if x != w || y != v || !reflect.DeepEqual(state(a, l), state(b, l)) || !slices.Equal(nexts(a), nexts(b)) || !slices.Equal(seenOf(a), seenOf(b)) {
					t.Fatalf("P17.5: seed %d, behind %v: %d and %d", seed, picks, one, other)
				}
				picks = append(picks, one, other)
				continue
			}
			a.Do(one)
			picks = append(picks, one)
		}
	}
	if swaps < 1000 {
		t.Errorf("%d swaps", swaps)
	}
}

// seenOf is what was seen, thread by thread.
func seenOf(m *src.Machine) []api.Event {
	l := m.Events()
	slices.SortStableFunc(l, func(a, b api.Event) int { return a.Thread - b.Thread })
	return l
}

// What is handed in is not changed and not kept.
func TestModulesAreNotKept(t *testing.T) {
	for seed := range int64(100) {
		l, twin := modules(t, rand.New(rand.NewSource(seed))), modules(t, rand.New(rand.NewSource(seed)))
		r := rand.New(rand.NewSource(seed))
		m, _ := src.New(l...)
		same, _ := src.New(twin...)
		var picks []int
		for range 200 {
			picks = append(picks, somePick(r))
		}
		if !reflect.DeepEqual(l, twin) {
			t.Fatalf("R5: seed %d: the modules are changed", seed)
		}
		spoilModules(l)
		spoil(l, api.Module{})
		for _, pick := range picks {
			a, _ := m.Next(pick)
			b, _ := same.Next(pick)
			if a != b || m.Do(pick) != same.Do(pick) {
				t.Fatalf("R5: seed %d: the modules are kept", seed)
			}
		}
		kept := slices.Clone(picks)
		events, e := src.Run(twin, picks)
		if e != api.OK || !slices.Equal(m.Events(), same.Events()) || !slices.Equal(events, m.Events()) || !slices.Equal(m.Threads(), same.Threads()) || !slices.Equal(picks, kept) {
			t.Fatalf("R5: seed %d: %v, %v", seed, m.Events(), same.Events())
		}
	}
}

func spoilModules(l []api.Module) {
	for _, m := range l {
		for _, d := range m.Decls {
			spoil(d.Params, "spoilt")
			spoil(d.Body, 77)
		}
		for _, s := range m.Stmts {
			spoil(s.Args, 77)
			spoil(s.Body, 77)
			spoil(s.Else, 77)
		}
		spoil(m.Decls, api.Decl{})
		spoil(m.Stmts, api.Stmt{})
		spoil(m.Exps, api.Exp{Kind: api.ExpNum, N: 4})
	}
}

// What is answered is new memory, its spare room too.
func TestAnswersAreNew(t *testing.T) {
	m := made(t, "lock l; int a[2] by l; thread t { with l { a[0] = 5; a[1] = 6; print 1; print 2; print a[0] + a[1]; } } thread u { }")
	for range 5 {
		m.Do(0)
	}
	spoil(m.Threads(), "spoilt")
	spoil(m.Events(), api.Event{Kind: 99})
	spoil(m.Global("a"), 99)
	first := m.Events()
	m.Do(0)
	if want := prints(0, 1, 2, 11); !slices.Equal(m.Events(), want) || !slices.Equal(first, want[:2]) || !slices.Equal(m.Threads(), []string{"t", "u"}) || !slices.Equal(m.Global("a"), []int64{5, 6}) {
		t.Errorf("R5: %v, %v, %v, %v", m.Events(), first, m.Threads(), m.Global("a"))
	}
	l, _ := src.Run(reads(t, counter), []int{0, 0, 0})
	spoil(l, api.Event{Kind: 99})
	if l, _ := src.Run(reads(t, counter), []int{0, 0, 0}); !slices.Equal(l, prints(0, 1)) {
		t.Errorf("R6: %v", l)
	}
}

// Machines are apart.
func TestMachinesAreApart(t *testing.T) {
	l := reads(t, counter)
	a, _ := src.New(l...)
	b, _ := src.New(l...)
	for range 3 {
		a.Do(0)
	}
	if len(b.Events()) != 0 || !slices.Equal(b.Global("x"), []int64{0}) || !b.Do(1) || !slices.Equal(a.Events(), prints(0, 1)) {
		t.Errorf("R6: %v, %v", a.Events(), b.Events())
	}
}

func TestRun(t *testing.T) {
	l := reads(t, counter)
	for _, picks := range [][]int{nil, {}, {0}, {1, 0}} {
		if events, e := src.Run(l, picks); e != api.OK || len(events) != 0 {
			t.Errorf("P17.4: %v: %v, error %d", picks, events, e)
		}
	}
	picks := make([]int, 1<<20)
	for i := range picks {
		picks[i] = i % 3
	}
	events, e := src.Run(reads(t, "queue q 8; lock l; int x by l; thread t { var v = 0; while (v < 20000) { with l { x = x + 1; } v = v + 1; put(q, v); } print v; } thread u { while (1) { get(q); } } thread w { while (1) { with l { x = x - 1; } } }"), picks)
	if want := ends(prints(0, 20000), 0); e != api.OK || !slices.Equal(events, want) {
		t.Errorf("P17.4: %v, error %d", events, e)
	}
}

// The greatest modules are run, too: as many tokens, as deep, and as many bodies as may be.
func TestGreatModules(t *testing.T) {
	long := "thread t { print 1" + strings.Repeat(" + 1", 1990) + "; }"
	wantAlone(t, long, ends(prints(0, 1991), 0))
	deep := strings.Repeat("if (1) { ", 18) + "print 5;" + strings.Repeat(" }", 18)
	wantAlone(t, "thread t { "+deep+" }", ends(prints(0, 5), 0))
	wantAlone(t, "thread t { print "+strings.Repeat("(0 + ", 19)+"7"+strings.Repeat(")", 19)+"; }", ends(prints(0, 7), 0))
	var l []string
	for i := range 8 {
		var s strings.Builder
		for k := range 39 {
			s.WriteString("int f" + strconv.Itoa(i) + "_" + strconv.Itoa(k) + "(p) rank 0 { return p + " + strconv.Itoa(i*100+k) + "; } ")
		}
		if i%2 == 1 {
			s.WriteString("thread t" + strconv.Itoa(i) + " { var v = 0; v = f" + strconv.Itoa(i) + "_38(1); print v; }")
		}
		l = append(l, s.String())
	}
	m := made(t, l...)
	var want []api.Event
	for i := range 4 {
		for m.Do(i) {
		}
		want = ends(append(want, prints(i, int64(i*200+139))...), i)
	}
	if !slices.Equal(m.Events(), want) {
		t.Errorf("P17.2: %v; want %v", m.Events(), want)
	}
}
