package lib_test

import (
	"math/rand"
	"slices"
	"strconv"
	"strings"
	"testing"

	"cotter/api"
)

const mostSteps = 200 // of a call that is alone

// callLines puts an argument into R1, and anything into the registers that a function may use, then calls it.
func callLines(r *rand.Rand, function string, arg int64) []string {
	l := []string{"movi r1 " + strconv.FormatInt(arg, 10)}
	for _, register := range []string{"r0", "r2", "r3", "r4", "r5", "r6"} {
		if r.Intn(4) == 0 {
			l = append(l, "movi "+register+" "+strconv.FormatInt(int64(r.Uint64())>>r.Intn(64), 10))
		}
	}
	return append(l, "call "+function)
}

// script is a thread's calls at random: locks are asked for in the order of their names, and all let go of again.
func script(r *rand.Rand, objects []named, calls int) []string {
	var lines []string
	var held []string
	for range calls {
		o := objects[r.Intn(len(objects))]
		switch {
		case o.size > 0 && r.Intn(2) == 0:
			lines = append(lines, callLines(r, o.name+".put", int64(r.Intn(30)-2))...)
		case o.size > 0:
			lines = append(lines, callLines(r, o.name+".get", int64(r.Intn(30)-2))...)
		case len(held) == 0 || held[len(held)-1] < o.name:
			lines = append(lines, callLines(r, o.name+".acq", 0)...)
			held = append(held, o.name)
		case slices.Contains(held, o.name):
			lines = append(lines, callLines(r, o.name+".rel", 0)...)
			held = slices.DeleteFunc(held, func(name string) bool { return name == o.name })
		}
	}
	for _, name := range held {
		lines = append(lines, callLines(r, name+".rel", 0)...)
	}
	return lines
}

func randomObjects(r *rand.Rand) []named {
	var l []named
	for k := range 1 + r.Intn(3) {
		m := locks()[r.Intn(2)]
		if r.Intn(2) == 0 {
			m = queueOf(1 + r.Intn(api.MaxCap))
			if r.Intn(2) == 0 {
				m = queueOf(1 + r.Intn(2))
			}
		}
		l = append(l, named{m, string(rune('a' + k))})
	}
	return l
}

// goAbout picks threads at random: stays is how long one goes on, leaves how seldom a store leaves (0: none does by itself).
func goAbout(r *rand.Rand, w *watch, picks int, stays int, leaves int) {
	t := 0
	for range picks {
		if r.Intn(stays) == 0 {
			t = r.Intn(w.Threads())
		}
		if leaves > 0 && r.Intn(leaves) == 0 {
			w.leave(r.Intn(w.Threads()))
			continue
		}
		w.step(t)
	}
}

// finish lets all threads go on in turn, and all stores leave, till all have halted.
func finish(t *testing.T, w *watch) {
	t.Helper()
	for range 200000 {
		going := false
		for k := range w.Threads() {
			w.step(k)
			w.leave(k)
			going = going || w.running(k)
		}
		if !going {
			return
		}
	}
	t.Fatalf("P12.3: some thread never ends: %+v", w.acts)
}

// Whatever the picks, there is an order, of a run that is cut short, too.
func TestAnyPicks(t *testing.T) {
	r := rand.New(rand.NewSource(21))
	for k := range 1500 {
		objects := randomObjects(r)
		threads := 1 + r.Intn(4)
		var texts []string
		for i := range threads {
			texts = append(texts, threadText(i, script(r, objects, 2+r.Intn(40/threads)/2)...))
		}
		w := newWatch(t, imageOf(t, objects, texts...))
		stays := []int{1, 2, 8, 40, 200}[k%5]
		leaves := []int{0, 2, 5, 30, 200, 1000}[k%6]
		for range 3 {
			goAbout(r, w, r.Intn(600), stays, leaves)
			w.wantOrder(t, objects)
		}
		finish(t, w)
		w.wantOrder(t, objects)
		for _, a := range w.acts {
			if a.Back < 0 {
				t.Fatalf("P12.3: never comes back: %+v", a)
			}
		}
	}
}

// Threads that count under a lock lose nothing, and see each other's counts in their order.
func TestLocksExclude(t *testing.T) {
	r := rand.New(rand.NewSource(22))
	const rounds = 5
	for k := range 400 {
		objects := []named{{locks()[k%2], "l"}}
		threads := 2 + k/2%3
		texts := []string{".words x 0\n"}
		for i := range threads {
			var lines []string
			for range rounds {
				lines = append(lines, "call l.acq", "adr r2 x 0", "ld r3 r2 0", "movi r4 1", "add r3 r4", "st r2 0 r3", "out r3", "call l.rel")
			}
			texts = append(texts, threadText(i, lines...))
		}
		w := newWatch(t, imageOf(t, objects, texts...))
		goAbout(r, w, r.Intn(3000), []int{1, 3, 20, 100}[k%4], []int{0, 2, 10, 60, 400}[k%5])
		finish(t, w)
		n := int64(0)
		for _, e := range w.Events() {
			if e.Kind != api.EvPrint {
				continue
			}
			if n++; e.N != n {
				t.Fatalf("P12.2: %s: %v", objects[0].what, w.Events())
			}
		}
		if v, _ := w.Word(wordOf(w.im, "x")); n != int64(rounds*threads) || v != n {
			t.Fatalf("P12.2: %s: %d counts, %d at the end", objects[0].what, n, v)
		}
	}
}

// Several threads put what nobody else puts, and several get: all that was taken is got, once, each thread's in their order.
func TestQueuesLoseNothing(t *testing.T) {
	r := rand.New(rand.NewSource(23))
	for k := range 300 {
		objects := []named{{queueOf(1 + k%api.MaxCap), "q"}}
		putters := 1 + k%3
		var texts []string
		for i := range 4 {
			var lines []string
			for n := range 14 {
				if i < putters {
					lines = append(lines, callLines(r, "q.put", int64(100*i+n))...)
				} else {
					lines = append(lines, callLines(r, "q.get", int64(n))...)
				}
			}
			texts = append(texts, threadText(i, lines...))
		}
		w := newWatch(t, imageOf(t, objects, texts...))
		goAbout(r, w, r.Intn(4000), []int{1, 3, 20, 100}[k%4], []int{0, 2, 10, 60, 400}[k%5])
		finish(t, w)
		wantEachOnce(t, w.acts)
		w.wantOrder(t, objects)
	}
}

func wantEachOnce(t *testing.T, l []api.Act) {
	t.Helper()
	taken := map[int64]bool{}
	for _, a := range l {
		if a.Do == api.DoPut && a.Answer == 1 {
			taken[a.Arg] = true
		}
	}
	for _, a := range l {
		if a.Do != api.DoGet || a.Answer == -1 {
			continue
		}
		if !taken[a.Answer] {
			t.Fatalf("P12.2: %d is got, but not taken, or got twice", a.Answer)
		}
		delete(taken, a.Answer)
	}
	if len(taken) > 8 {
		t.Fatalf("P12.2: %d are lost", len(taken)-8)
	}
}

func wordOf(im api.Image, name string) int64 {
	for _, s := range im.Syms {
		if s.Name == name && s.Kind == api.SymData {
			return api.DataBase + 8*int64(s.At)
		}
	}
	return 0
}

// One thread alone has of each queue just what an atomic one answers.
func TestQueuesAlone(t *testing.T) {
	r := rand.New(rand.NewSource(24))
	for k := range 160 {
		objects := []named{{queueOf(1 + k%api.MaxCap), "q"}}
		var lines []string
		for range 55 {
			switch n := r.Intn(100); {
			case n < 45+k%3*10:
				lines = append(lines, callLines(r, "q.put", int64(r.Intn(1000)))...)
			case n < 70:
				lines = append(lines, callLines(r, "q.put", []int64{-1, 0, 1<<63 - 1, -1 << 63}[r.Intn(4)])...)
			default:
				lines = append(lines, callLines(r, "q.get", int64(r.Intn(1000)))...)
			}
		}
		w := newWatch(t, imageOf(t, objects, threadText(0, lines...)))
		for range 55 {
			alone(t, w, 0)
			if k%2 == 0 {
				w.leaveAll(0)
			}
		}
		w.wantOrder(t, objects)
	}
}

// alone lets a thread do steps till its next call comes back, and wants that within the steps that there are for it.
func alone(t *testing.T, w *watch, thread int) {
	t.Helper()
	for w.within[thread] == nil && w.running(thread) {
		if w.step(thread) {
			return
		}
	}
	for range mostSteps - 1 {
		if w.step(thread) {
			return
		}
	}
	t.Fatalf("P12.3: thread %d does not come back: %+v", thread, w.acts)
}

// A call that is alone comes back, in whatever order threads have been at the object ahead of it, full and empty.
func TestCallsThatAreAlone(t *testing.T) {
	r := rand.New(rand.NewSource(25))
	for k := range 300 {
		objects := []named{{locks()[k%2], "l"}, {queueOf(1 + k%api.MaxCap), "q"}}
		var texts []string
		for i := range 3 {
			var lines []string
			for range 6 {
				call := callLines(r, []string{"q.put", "q.get", "q.put"}[r.Intn(3)], int64(r.Intn(50)))
				if r.Intn(3) == 0 {
					call = slices.Concat(callLines(r, "l.acq", 0), call, callLines(r, "l.rel", 0))
				}
				lines = append(lines, call...)
			}
			texts = append(texts, threadText(i, lines...))
		}
		w := newWatch(t, imageOf(t, objects, texts...))
		holder := -1
		for range 60 {
			thread := r.Intn(3)
			if holder >= 0 && r.Intn(2) == 0 {
				thread = holder
			}
			if comesNext(w, thread) == "l.acq" && holder >= 0 {
				continue
			}
			for other := range 3 {
				if other != thread {
					w.leaveAll(other)
				}
			}
			if comesNext(w, thread) == "" {
				continue
			}
			switch comesNext(w, thread) {
			case "l.acq":
				holder = thread
			case "l.rel":
				holder = -1
			}
			alone(t, w, thread)
		}
		w.wantOrder(t, objects)
	}
}

// comesNext lets a thread go on till it is ahead of a call, and says of what; empty, if there is none.
func comesNext(w *watch, thread int) string {
	for w.running(thread) {
		i, behind := w.next(thread)
		if i.Op == api.CALL {
			return w.functions[behind+i.N]
		}
		w.step(thread)
	}
	return ""
}

// What is stored when a lock is let go of waits: who asks for it gets it when that has left, and not ahead.
func TestLetGoOfWaits(t *testing.T) {
	for _, m := range locks() {
		objects := []named{{m, "l"}}
		w := newWatch(t, imageOf(t, objects, threadText(0, "call l.acq", "call l.rel", "call l.acq", "call l.rel"), threadText(1, "call l.acq")))
		alone(t, w, 0)
		alone(t, w, 0)
		if len(w.waits(0)) == 0 {
			t.Errorf("P12.2: %s: no store waits", m.what)
		}
		for range 1000 {
			if w.step(1) {
				t.Fatalf("P12.2: %s: it is had ahead of the store's leaving", m.what)
			}
		}
		w.leaveAll(0)
		for range mostSteps {
			w.step(1)
		}
		if w.running(1) {
			t.Errorf("P12.3: %s: it is not had when the store has left", m.what)
		}
		w.wantOrder(t, objects)
	}
}

// A thread that has just let go gets the lock again, whether or not its store has left.
func TestTheSameThreadAgain(t *testing.T) {
	for _, m := range locks() {
		objects := []named{{m, "l"}}
		w := newWatch(t, imageOf(t, objects, threadText(0, strings.Split(strings.Repeat("call l.acq\ncall l.rel\n", 20), "\n")...)))
		for range 40 {
			alone(t, w, 0)
		}
		w.wantOrder(t, objects)
	}
}

// While a queue's call is not seen to have come to its end, others wait; then they see all of it.
func TestQueueWaits(t *testing.T) {
	objects := []named{{queueOf(2), "q"}}
	w := newWatch(t, imageOf(t, objects, threadText(0, "movi r1 5", "call q.put"), threadText(1, "call q.get", "out r0")))
	alone(t, w, 0)
	for range 1000 {
		w.step(1)
	}
	for w.leave(0) {
		for range 50 {
			w.step(1)
		}
	}
	for range mostSteps {
		w.step(1)
	}
	if l := w.Events(); len(l) == 0 || l[0] != (api.Event{Thread: 1, Kind: api.EvPrint, N: 5}) {
		t.Errorf("P12.2: %v", l)
	}
	w.wantOrder(t, objects)
}

// A call turns no word but its object's and those below R7, and no room but the CALL's is needed on the stack.
func TestNothingElseIsTouched(t *testing.T) {
	r := rand.New(rand.NewSource(26))
	for _, m := range makers() {
		for _, left := range []int64{8, 16, 4096} {
			objects := []named{{m, "b"}, {queueOf(8), "z"}} // z's words stand behind b's
			lines := []string{"movi r7 " + strconv.FormatInt(api.StackBase+left, 10), "movi r0 77", "st r7 0 r0", "st r7 8 r0", "fence"}
			for range 12 {
				for _, f := range m.functions("b") {
					lines = append(lines, callLines(r, f, int64(1+r.Intn(9)))...)
				}
			}
			w := newWatch(t, imageOf(t, objects, ".words a 77 77\n", threadText(0, lines...)))
			finish(t, w)
			w.wantOrder(t, objects)
			wantWords(t, w, m.what, wordOf(w.im, "a"), 77, 77)
			wantWords(t, w, m.what, wordOf(w.im, "z.data"), make([]int64, 11)...)
			wantWords(t, w, m.what, api.StackBase+left, 77, 77)
		}
	}
}

func wantWords(t *testing.T, w *watch, what string, addr int64, want ...int64) {
	t.Helper()
	for k, n := range want {
		if v, e := w.Word(addr + 8*int64(k)); v != n || e != api.OK {
			t.Errorf("P12.2: %s: the word %d behind %d is %d, error %d; want %d", what, k, addr, v, e, n)
		}
	}
}
