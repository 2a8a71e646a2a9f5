package whole_test

import (
	"fmt"
	"math/rand"
	"slices"
	"strings"
	"testing"

	"cotter/api"
	"cotter/driver"
	"cotter/ins"
	"cotter/parse"
	"cotter/tso"
)

func built(t *testing.T, l []string) api.Image {
	t.Helper()
	im, e := driver.Build(l...)
	if e != api.OK {
		t.Fatalf("P23.2: error %d: %q", e, l)
	}
	return im
}

func reads(t *testing.T, l []string) []api.Module {
	t.Helper()
	var all []api.Module
	for _, s := range l {
		m, e := parse.Parse(s)
		if e != api.OK {
			t.Fatalf("P15.1: error %d: %q", e, s)
		}
		all = append(all, m)
	}
	return all
}

// given are the declarations of modules that are not Extern.
func given(l []api.Module) []api.Decl {
	var all []api.Decl
	for _, m := range l {
		for _, d := range m.Decls {
			if !d.Extern {
				all = append(all, d)
			}
		}
	}
	return all
}

// atoms are the locks and queues of modules.
func atoms(l []api.Module) []api.Atom {
	var all []api.Atom
	for _, d := range given(l) {
		switch d.Kind {
		case api.DeclLock, api.DeclTicket:
			all = append(all, api.Atom{Name: d.Name})
		case api.DeclQueue:
			all = append(all, api.Atom{Name: d.Name, Cap: d.N})
		}
	}
	return all
}

// witnessed is a machine of which each touch of memory, each call of a lock's or queue's function and each event is written down.
type witnessed struct {
	*tso.Machine
	im      api.Image
	calls   map[int64]string // the functions, by their addresses
	globals map[int64]string // the words of globals, by their addresses
	back    []int64          // of each thread: where it comes back to, from such a function (0: it is in none)
	acts    []api.Act        // calls, and events as prints
	number  []int            // of each thread: its newest act
	now     int
}

func newWitnessed(t *testing.T, l []string) *witnessed {
	t.Helper()
	w := &witnessed{im: built(t, l), calls: map[int64]string{}, globals: map[int64]string{}}
	w.Machine, _ = tso.New(w.im)
	w.back, w.number = make([]int64, w.Threads()), make([]int, w.Threads())
	sizes := map[string]int{}
	for _, d := range given(reads(t, l)) {
		if d.Kind == api.DeclInt {
			sizes[d.Name] = max(1, d.N)
		}
	}
	for _, s := range w.im.Syms {
		if s.Kind == api.SymCode && strings.Contains(s.Name, ".") {
			w.calls[api.CodeBase+int64(s.At)] = s.Name
		}
		for i := range sizes[s.Name] {
			w.globals[api.DataBase+8*int64(s.At+i)] = s.Name
		}
	}
	return w
}

// touched is the address that an instruction reads or writes.
func touched(c api.CPU, i api.Ins) (int64, bool) {
	switch i.Op {
	case api.LD:
		return c.R[i.B] + i.N, true
	case api.ST, api.XCHG, api.XADD:
		return c.R[i.A] + i.N, true
	case api.CALL:
		return c.R[api.Stack] - 8, true
	case api.RET:
		return c.R[api.Stack], true
	}
	return 0, false
}

// clash says whose store waits to a word that a thread is about to touch, if it is a global's or a stack's.
func (w *witnessed) clash(t int, c api.CPU, i api.Ins) string {
	addr, touches := touched(c, i)
	if _, global := w.globals[addr]; !touches || !global && addr < api.StackBase {
		return ""
	}
	for other := range w.Threads() {
		_, waits := w.Thread(other)
		if other != t && slices.ContainsFunc(waits, func(x api.Wait) bool { return x.Addr == addr }) {
			return fmt.Sprintf("P5: thread %d touches %d (%s), to which a store of thread %d waits", t, addr, w.globals[addr], other)
		}
	}
	return ""
}

// pick does one, and says what was wrong with it, if anything was.
func (w *witnessed) pick(p int) string {
	w.now += 2
	q := max(p, -1-p)
	t := q / 2 % w.Threads()
	c, _ := w.Thread(t)
	if q%2 == 1 || c.State != api.Running {
		w.Do(p)
		return ""
	}
	i, behind, e := ins.Decode(w.im.Code, int(c.PC-api.CodeBase))
	if e != api.OK {
		return fmt.Sprintf("P4: thread %d is at %d, where no instruction is", t, c.PC)
	}
	wrong := w.clash(t, c, i)
	shown := len(w.Events())
	w.Do(p)
	is, _ := w.Thread(t)
	if name, ok := w.calls[is.PC]; ok && i.Op == api.CALL {
		w.begins(t, name, c.R[1])
		w.back[t] = api.CodeBase + int64(behind)
	} else if w.back[t] != 0 && is.PC == w.back[t] {
		w.back[t] = 0
		w.acts[w.number[t]].Back, w.acts[w.number[t]].Answer = w.now+1, is.R[0]
	}
	if len(w.Events()) > shown {
		w.acts = append(w.acts, api.Act{Thread: t, Do: api.DoPrint, Call: w.now, Back: w.now + 1})
	}
	return wrong
}

func (w *witnessed) begins(t int, name string, arg int64) {
	k := strings.IndexByte(name, '.')
	w.number[t] = len(w.acts)
	act := api.Act{Thread: t, Name: name[:k], Call: w.now, Back: -1}
	act.Do = 1 + slices.Index([]string{"acq", "rel", "put", "get"}, name[k+1:])
	if act.Do == api.DoPut {
		act.Arg = arg
	}
	w.acts = append(w.acts, act)
}

// manyPicks are some at random: one thread goes on for some time, stores leave seldom or often.
func manyPicks(r *rand.Rand, threads int, most int) []int {
	stays, leaves := []int{1, 4, 20, 100, 400}[r.Intn(5)], []int{0, 2, 5, 30, 200}[r.Intn(5)]
	t := 0
	var l []int
	for range r.Intn(most) {
		if r.Intn(stays) == 0 {
			t = r.Intn(threads)
		}
		p := 2 * t
		if leaves > 0 && r.Intn(leaves) == 0 {
			p = 2*r.Intn(threads) + 1
		}
		switch r.Intn(20) {
		case 0:
			p = -1 - p
		case 1:
			p += 2 * threads * r.Intn(1000)
		}
		l = append(l, p)
	}
	return l
}
