package opt_test

import (
	"math/rand"
	"reflect"
	"slices"
	"testing"

	"cotter/api"
	"cotter/lower"
	"cotter/rtl"
)

// mostIdle is how many operations the functions as they were may do for one that can be seen.
const mostIdle = 100000

// follower lets a run of the functions as they were show what a run of the new ones shows: a thread of the old ones goes on only when the new one shows something, and only as far as to that.
type follower struct {
	now  *rtl.Machine
	was  *rtl.Machine
	seen int
}

func newFollower(t *testing.T, l []api.Module, was, now []api.Func) *follower {
	t.Helper()
	a, e := rtl.New(l, was)
	b, e2 := rtl.New(l, now)
	if e != api.OK || e2 != api.OK {
		t.Fatalf("P20.2: errors %d, %d", e, e2)
	}
	return &follower{now: b, was: a}
}

func shown(m *rtl.Machine) int { return len(m.Acts()) + len(m.Events()) }

// do says whether the same can be seen.
func (w *follower) do(thread int) bool {
	if !w.now.Do(thread) || shown(w.now) == w.seen {
		return true
	}
	for i := 0; shown(w.was) == w.seen; i++ {
		if i == mostIdle || !w.was.Do(thread) {
			return false
		}
	}
	w.seen = shown(w.now)
	return slices.Equal(w.was.Acts(), w.now.Acts()) && slices.Equal(w.was.Events(), w.now.Events())
}

func wantFollows(t *testing.T, label string, seed int64, l []api.Module, was, now []api.Func, threads int) *follower {
	t.Helper()
	r := rand.New(rand.NewSource(seed))
	w := newFollower(t, l, was, now)
	thread := 0
	for i := range 300 {
		if r.Intn(5) == 0 {
			thread = r.Intn(threads)
		}
		if !w.do(thread) {
			t.Fatalf("P20.2: %s, seed %d, step %d: %v, %v are seen; of the functions as they were %v, %v\nwas %+v\nnow %+v", label, seed, i, w.now.Acts(), w.now.Events(), w.was.Acts(), w.was.Events(), was, now)
		}
	}
	return w
}

func operations(l []api.Func) int {
	n := 0
	for _, f := range l {
		n += len(f.Code)
	}
	return n
}

// Functions that are made up, whatever the picks; what was made fewer is made fewer again.
func TestMadeUp(t *testing.T) {
	l := reads(t, front)
	kinds, acts, before, behind := map[int]int{}, map[int]int{}, 0, 0
	for seed := range int64(6000) {
		was := madeUp(t, l, seed)
		now := fewer(t, l, was)
		before += operations(was)
		behind += operations(now)
		w := wantFollows(t, "made up", seed, l, was, now, 2)
		for _, v := range w.now.Events() {
			kinds[v.Kind]++
		}
		for _, a := range w.now.Acts() {
			acts[a.Do]++
		}
		if again := fewer(t, l, now); !reflect.DeepEqual(again, now) {
			t.Fatalf("P20.3: seed %d: %+v became %+v", seed, now, again)
		}
	}
	for do := api.DoAcquire; do <= api.DoPrint; do++ {
		if acts[do] < 1000 {
			t.Errorf("too little was done: %v", acts)
		}
	}
	if kinds[api.EvPrint] < 5000 || kinds[api.EvEnd] < 1000 || kinds[api.EvFault] < 1000 || behind*10 > before*7 {
		t.Errorf("too little was seen, or made fewer: %v; %d operations of %d", kinds, behind, before)
	}
}

// alone is what is seen of one thread that does so many operations.
func alone(t *testing.T, l []api.Module, f []api.Func, most int) (acts []api.Act, events []api.Event) {
	t.Helper()
	m, e := rtl.New(l, f)
	if e != api.OK {
		t.Fatalf("P20.2: error %d", e)
	}
	for range most {
		m.Do(0)
	}
	return m.Acts(), m.Events()
}

func begins[T comparable](long, short []T) bool {
	return len(short) <= len(long) && slices.Equal(long[:len(short)], short)
}

// A thread alone comes no later to what is seen than it did: so it does not stop showing.
func TestNoSlower(t *testing.T) {
	l := reads(t, front)
	for seed := range int64(3000) {
		was := madeUp(t, l, seed)
		now := fewer(t, l, was)
		for _, n := range []int{10, 40, 160} {
			acts, events := alone(t, l, was, n)
			newActs, newEvents := alone(t, l, now, n)
			if !begins(newActs, acts) || !begins(newEvents, events) {
				t.Fatalf("P20.2: seed %d: %d operations: %v, %v; as they were %v, %v", seed, n, newActs, newEvents, acts, events)
			}
		}
	}
}

// What is lowered is made fewer, and threads that race for locks and queues show what they did.
func TestLowered(t *testing.T) {
	before, behind := 0, 0
	for _, sources := range [][]string{
		{"lock l; int x by l; thread t { with l { x = x + 1; print x; } } thread u { with l { x = x + 1; print x; } }"},
		{"lock l; int x by l; thread t { var i = 0; while (i < 3) { with l { x = x + 1; print x * 10 + 1; } i = i + 1; } } thread u { var i = 0; while (i < 3) { with l { x = x + 1; print x * 10 + 2; } i = i + 1; } }"},
		{"lock l; extern int f(1) with l rank 2; int x by l; thread t { var v = 1; with l { v = f(v && x); print v; x = 0 - v; v = f(x); print v + x; } }", "extern lock l; extern int x by l; int f(p) with l rank 2 { if (p) { x = p * 1 + 0; return x; } else { x = x + 1; } return 0 - x; } thread u { while (1) { with l { print x; x = x + 5; } } }"},
		{"queue q 2; thread t { var i = 0; var v = 1; while (i < 5) { v = put(q, i * 2); i = i + v; } } thread u { var n = 0; var v = 0; while (n < 5) { v = get(q); if (v >= 0) { print v; n = n + 1; } } }"},
		{"lock l; int a[4] by l; queue q 1; thread t { var i = 0; var s = 1 + 2 * 3; while (i < 6) { with l { a[i & 3] = a[(i + 1) & 3] + s; } put(q, i); i = i + 1; } with l { print a[i]; } } thread u { var v = 0; while (v < 4) { v = get(q); with l { print a[0] + a[1] || a[2]; if (v > 1) { a[v] = -v; } } } }"},
		{"thread t { var v = 0; while (!v) { if (v == 0 && 1) { print 1; } else { print 2; } v = v || 0; if (0) { v = 1; } } }"},
		{"ticket l; ticket k; int x by l; int y by k; int f(a, b) rank 0 { var c = a; while (c > 0) { c = c - 1; if (c == b) { return c / (b - 1); } } return a % 4; } thread t { var v = 0; v = f(9, 3); print v; with l { with k { x = y + 1; y = x; print y; } } v = f(9, 1); print v; } thread u { with l { with k { print x + y; x = y - 1; y = 2; } } } thread w { with k { print y; y = y + 3; } f(1, 1); f(3, 1); print 8; }"},
	} {
		l := reads(t, sources...)
		var was []api.Func
		for _, m := range l {
			f, e := lower.Lower(m)
			if e != api.OK {
				t.Fatalf("P19.1: %q: error %d", sources, e)
			}
			was = append(was, f...)
		}
		now := fewer(t, l, was)
		before += operations(was)
		behind += operations(now)
		for seed := range int64(200) {
			wantFollows(t, sources[0], seed, l, was, now, 3)
		}
	}
	if behind*20 > before*17 {
		t.Errorf("%d operations of %d", behind, before)
	}
}
