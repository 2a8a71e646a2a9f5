package emit_test

import (
	"fmt"
	"math/rand"
	"slices"
	"strings"
	"testing"

	"cotter/api"
	"cotter/atom"
	"cotter/image"
	"cotter/ins"
	"cotter/src"
	"cotter/tso"
)

// objects are the modules' locks and queues.
func objects(l []api.Module) []api.Atom {
	var all []api.Atom
	for _, m := range l {
		for _, d := range m.Decls {
			switch {
			case d.Extern:
			case d.Kind == api.DeclLock || d.Kind == api.DeclTicket:
				all = append(all, api.Atom{Name: d.Name})
			case d.Kind == api.DeclQueue:
				all = append(all, api.Atom{Name: d.Name, Cap: d.N})
			}
		}
	}
	return all
}

// within is a call of a lock's or queue's function that a thread is in: act is what it does, back and stack where it comes back to; done, if the sources have done it, with its answer.
type within struct {
	act   api.Act
	back  int64
	stack int64
	done  bool
}

// follower lets a run of the modules show what the machine shows. A lock is had by the sources when the call comes back, and let go of when it is called; a queue's operation is done by them when the machine's thread has swapped its way into it.
type follower struct {
	*tso.Machine
	im        api.Image
	functions map[int64]string // those of locks and queues, by their addresses
	locks     map[int64]string // of each word of a global, by its address
	sources   *src.Machine
	numbers   []int // of each thread of the machine, its number among the sources' ones
	atoms     []api.Atom
	within    []*within
	seen      []api.Event
	steps     []int
	acts      map[int]int
}

func newFollower(t *testing.T, l []api.Module, im api.Image) *follower {
	t.Helper()
	m, e := tso.New(im)
	if e != api.OK {
		t.Fatalf("P5.1: error %d", e)
	}
	sources, e := src.New(l...)
	if e != api.OK {
		t.Fatalf("P17.2: error %d", e)
	}
	w := &follower{Machine: m, im: im, functions: map[int64]string{}, locks: map[int64]string{}, sources: sources, atoms: objects(l), within: make([]*within, m.Threads()), steps: make([]int, m.Threads()), acts: map[int]int{}}
	for _, name := range image.Threads(im) {
		w.numbers = append(w.numbers, slices.Index(sources.Threads(), name))
	}
	for _, s := range im.Syms {
		if s.Kind == api.SymCode && strings.Contains(s.Name, ".") {
			w.functions[api.CodeBase+int64(s.At)] = s.Name
		}
	}
	for _, m := range l {
		for _, d := range m.Decls {
			if d.Kind == api.DeclInt && !d.Extern {
				w.addGlobal(d)
			}
		}
	}
	return w
}

func (w *follower) addGlobal(d api.Decl) {
	for _, s := range w.im.Syms {
		for i := range max(1, d.N) {
			if s.Name == d.Name {
				w.locks[api.DataBase+8*int64(s.At+i)] = d.By
			}
		}
	}
}

// step lets a thread do a step, and says what went wrong by it, if anything did.
func (w *follower) step(t int) string {
	c, _ := w.Thread(t)
	if c.State != api.Running {
		return ""
	}
	i, behind, _ := ins.Decode(w.im.Code, int(c.PC-api.CodeBase))
	if wrong := w.touches(t, c, i); wrong != "" {
		return wrong
	}
	if wrong := w.begins(t, c, i, api.CodeBase+int64(behind)); wrong != "" {
		return wrong
	}
	w.Do(2 * t)
	w.steps[t]++
	now, _ := w.Thread(t)
	if in := w.within[t]; in != nil && !in.done && i.Op == api.XCHG && now.R[i.B] == 0 && (in.act.Do == api.DoPut || in.act.Do == api.DoGet) {
		if wrong := w.follow(in); wrong != "" {
			return wrong
		}
	}
	if wrong := w.comesBack(t, now); wrong != "" {
		return wrong
	}
	return w.see(t)
}

// touches: a word of a global is touched by who holds its lock alone, and neither it nor a stack's one is such to which another thread's store waits.
func (w *follower) touches(t int, c api.CPU, i api.Ins) string {
	addr := int64(0)
	switch i.Op {
	case api.LD:
		addr = c.R[i.B] + i.N
	case api.ST, api.XCHG, api.XADD:
		addr = c.R[i.A] + i.N
	case api.CALL:
		addr = c.R[api.Stack] - 8
	case api.RET:
		addr = c.R[api.Stack]
	default:
		return ""
	}
	lock, global := w.locks[addr]
	if !global && addr < api.StackBase {
		return ""
	}
	if global && !slices.ContainsFunc(w.atoms, func(a api.Atom) bool { return a.Name == lock && a.Owner == w.numbers[t]+1 }) {
		return fmt.Sprintf("P22.4: thread %d touches %d without %s", t, addr, lock)
	}
	if own := int64(api.StackBase + t*api.StackSize); !global && (addr < own || addr >= own+api.StackSize) {
		return fmt.Sprintf("thread %d touches %d, which is not its stack's", t, addr)
	}
	for other := range w.Threads() {
		if _, waits := w.Thread(other); other != t && slices.ContainsFunc(waits, func(x api.Wait) bool { return x.Addr == addr }) {
			return fmt.Sprintf("P5: thread %d touches %d, to which a store of thread %d waits", t, addr, other)
		}
	}
	return ""
}

func (w *follower) begins(t int, c api.CPU, i api.Ins, behind int64) string {
	name, ok := w.functions[behind+i.N]
	if !ok || i.Op != api.CALL {
		return ""
	}
	k := strings.IndexByte(name, '.')
	in := &within{act: api.Act{Thread: w.numbers[t], Name: name[:k]}, back: behind, stack: c.R[api.Stack]}
	in.act.Do = map[string]int{"acq": api.DoAcquire, "rel": api.DoRelease, "put": api.DoPut, "get": api.DoGet}[name[k+1:]]
	if in.act.Do == api.DoPut {
		in.act.Arg = c.R[1]
	}
	w.within[t] = in
	if in.act.Do == api.DoRelease {
		return w.follow(in)
	}
	return ""
}

func (w *follower) comesBack(t int, c api.CPU) string {
	in := w.within[t]
	if in == nil || c.PC != in.back || c.R[api.Stack] != in.stack {
		return ""
	}
	w.within[t] = nil
	if !in.done {
		if wrong := w.follow(in); wrong != "" {
			return wrong
		}
	}
	if (in.act.Do == api.DoPut || in.act.Do == api.DoGet) && in.act.Answer != c.R[0] {
		return fmt.Sprintf("P22.2: %+v, but the machine has %d", in.act, c.R[0])
	}
	return ""
}

// mostUnseen is how many operations that nobody sees a thread of the sources does at most, one behind the other.
const mostUnseen = 100000

// follow lets the sources do an act.
func (w *follower) follow(in *within) string {
	in.done = true
	want := in.act
	for range mostUnseen {
		act, on := w.sources.Next(want.Thread)
		if act.Do == 0 {
			if !on || !w.sources.Do(want.Thread) || len(w.sources.Events()) > len(w.seen) {
				break
			}
			continue
		}
		if act.Do != want.Do || act.Name != want.Name || act.Arg != want.Arg || !w.sources.Do(want.Thread) {
			break
		}
		w.acts[act.Do]++
		w.atoms, in.act.Answer, _ = atom.Do(w.atoms, act.Thread, act.Do, act.Name, act.Arg)
		return ""
	}
	return fmt.Sprintf("P22.2: the sources do not do %+v", want)
}

// see lets the sources show what the machine's thread has shown by its step.
func (w *follower) see(t int) string {
	events := w.Events()
	if len(events) == len(w.seen) {
		return ""
	}
	want := events[len(events)-1]
	want.Thread = w.numbers[t]
	w.seen = append(w.seen, want)
	for range mostUnseen {
		if act, on := w.sources.Next(want.Thread); !on || act.Do != 0 && act.Do != api.DoPrint || !w.sources.Do(want.Thread) {
			break
		}
		if shown := w.sources.Events(); len(shown) == len(w.seen) {
			if shown[len(shown)-1] == want {
				return ""
			}
			break
		}
	}
	return fmt.Sprintf("P22.2: the machine shows %+v, the sources %v", want, w.sources.Events())
}

// goAbout picks threads at random: stays is how long one goes on, leaves how seldom a store leaves (0: none does by itself).
func (w *follower) goAbout(r *rand.Rand, picks int, stays int, leaves int) string {
	t := 0
	for range picks {
		if r.Intn(stays) == 0 {
			t = r.Intn(w.Threads())
		}
		if leaves > 0 && r.Intn(leaves) == 0 {
			w.Do(2*r.Intn(w.Threads()) + 1)
			continue
		}
		if wrong := w.step(t); wrong != "" {
			return wrong
		}
	}
	return ""
}

// Whatever the picks, some run of the modules shows what the machine shows; whether or not functions were made fewer, and wherever their temps are.
func TestFollows(t *testing.T) {
	kinds, acts := map[int]int{}, map[int]int{}
	for seed := range int64(1200) {
		r := rand.New(rand.NewSource(seed))
		l := madeUp(t, seed)
		how := way{fewer: seed%2 == 0}
		if seed%4 > 1 {
			how.places = r
		}
		w := newFollower(t, l, how.build(t, r, l))
		stays, leaves := []int{1, 4, 20, 100, 500}[r.Intn(5)], []int{0, 2, 5, 30, 200}[r.Intn(5)]
		if wrong := w.goAbout(r, 6000, stays, leaves); wrong != "" {
			t.Fatalf("seed %d: %s", seed, wrong)
		}
		for _, v := range w.seen {
			kinds[v.Kind]++
		}
		for do, n := range w.acts {
			acts[do] += n
		}
	}
	if kinds[api.EvPrint] < 3000 || kinds[api.EvEnd] < 700 || kinds[api.EvFault] < 700 {
		t.Errorf("too little was seen: %v", kinds)
	}
	for do := api.DoAcquire; do <= api.DoGet; do++ {
		if acts[do] < 1000 {
			t.Errorf("too little was done: %v", acts)
		}
	}
}
