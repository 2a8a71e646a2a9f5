package lib_test

import (
	"fmt"
	"math/bits"
	"strconv"
	"strings"
	"testing"

	"cotter/api"
	"cotter/asm"
	"cotter/atom"
	"cotter/ins"
	"cotter/link"
	"cotter/tso"
)

// named is an object that a test has: a maker with its name.
type named struct {
	maker
	name string
}

// atoms are the objects as atomic ones, free and empty.
func atoms(l []named) []api.Atom {
	var next []api.Atom
	for _, o := range l {
		next = append(next, api.Atom{Name: o.name, Cap: o.size})
	}
	return next
}

// imageOf links texts, each a client's, with the objects.
func imageOf(t *testing.T, objects []named, texts ...string) api.Image {
	t.Helper()
	var l []api.Object
	for _, s := range texts {
		o, e := asm.Text(s)
		if e != api.OK {
			t.Fatalf("P10.2: %q: error %d", s, e)
		}
		l = append(l, o)
	}
	for _, o := range objects {
		l = append(l, assembled(t, o.maker, o.name))
	}
	im, e := link.Link(l...)
	if e != api.OK {
		t.Fatalf("P7.1: error %d", e)
	}
	return im
}

// threadText is a thread's text: its lines, and an end.
func threadText(t int, lines ...string) string {
	name := "t" + strconv.Itoa(t)
	return ".thread " + name + "\n" + name + ":\n" + strings.Join(lines, "\n") + "\nhalt\n"
}

// within says what call a thread is in: the number of its act, where it comes back to, and the stack's register ahead of it.
type within struct {
	act   int
	back  int64
	stack int64
}

// watch is a machine of which each call of a function, and its coming back, is written down.
type watch struct {
	*tso.Machine
	im        api.Image
	functions map[int64]string // by their addresses
	within    []*within
	acts      []api.Act
	time      int
	steps     []int // of each thread, how many
}

func newWatch(t *testing.T, im api.Image) *watch {
	t.Helper()
	m, e := tso.New(im)
	if e != api.OK {
		t.Fatalf("P5.1: error %d", e)
	}
	w := &watch{Machine: m, im: im, functions: map[int64]string{}, within: make([]*within, m.Threads()), steps: make([]int, m.Threads())}
	for _, s := range im.Syms {
		if s.Kind == api.SymCode {
			w.functions[api.CodeBase+int64(s.At)] = s.Name
		}
	}
	return w
}

func (w *watch) cpu(t int) api.CPU {
	c, _ := w.Thread(t)
	return c
}

func (w *watch) running(t int) bool {
	return w.cpu(t).State == api.Running
}

// next is the instruction that a thread does next, and where the one behind it is.
func (w *watch) next(t int) (api.Ins, int64) {
	i, behind, _ := ins.Decode(w.im.Code, int(w.cpu(t).PC-api.CodeBase))
	return i, api.CodeBase + int64(behind)
}

// step lets a thread do a step, and says whether one of its calls came back by it.
func (w *watch) step(t int) bool {
	c := w.cpu(t)
	i, behind := w.next(t)
	if f, ok := w.functions[behind+i.N]; ok && i.Op == api.CALL && w.within[t] == nil && c.State == api.Running {
		w.within[t] = &within{len(w.acts), behind, c.R[api.Stack]}
		w.acts = append(w.acts, actOf(t, f, c.R[1], w.time))
	}
	if !w.Do(2 * t) {
		return false
	}
	w.steps[t]++
	came := w.cameBack(t)
	w.time++
	return came
}

func (w *watch) cameBack(t int) bool {
	in, c := w.within[t], w.cpu(t)
	if in == nil || c.PC != in.back || c.R[api.Stack] != in.stack {
		return false
	}
	a := &w.acts[in.act]
	a.Back = w.time
	if a.Do == api.DoPut || a.Do == api.DoGet {
		a.Answer = c.R[0]
	}
	w.within[t] = nil
	return true
}

// leave lets a thread's oldest store leave.
func (w *watch) leave(t int) bool {
	return w.Do(2*t + 1)
}

func (w *watch) leaveAll(t int) {
	for w.leave(t) {
	}
}

func (w *watch) waits(t int) []api.Wait {
	_, l := w.Thread(t)
	return l
}

func actOf(thread int, function string, r1 int64, time int) api.Act {
	k := strings.LastIndexByte(function, '.')
	a := api.Act{Thread: thread, Name: function[:k], Call: time, Back: -1}
	switch function[k+1:] {
	case "acq":
		a.Do = api.DoAcquire
	case "rel":
		a.Do = api.DoRelease
	case "put":
		a.Do, a.Arg = api.DoPut, r1
	case "get":
		a.Do = api.DoGet
	}
	return a
}

// wantOrder wants the acts so far to have an order, and no thread to have trapped.
func (w *watch) wantOrder(t *testing.T, objects []named) {
	t.Helper()
	if !hasOrder(atoms(objects), w.acts) {
		t.Fatalf("P12.2: no order: %+v", w.acts)
	}
	for _, e := range w.Events() {
		if e.Kind == api.EvFault {
			t.Fatalf("P12.3: thread %d traps with %d", e.Thread, e.N)
		}
	}
}

// search looks for an order of acts, of which done are so by their bits; what led nowhere is kept.
type search struct {
	acts    []api.Act
	nowhere map[string]struct{}
}

func hasOrder(objects []api.Atom, l []api.Act) bool {
	if len(l) > 60 {
		panic("too many acts")
	}
	s := search{l, map[string]struct{}{}}
	return s.goesOn(objects, 0)
}

func (s *search) goesOn(objects []api.Atom, done uint64) bool {
	if s.allBack(done) {
		return true
	}
	key := fmt.Sprint(done, objects)
	if _, ok := s.nowhere[key]; ok {
		return false
	}
	for k, a := range s.acts {
		if done&(1<<k) != 0 || !s.mayBeNext(k, done) {
			continue
		}
		next, answer, came := atom.Do(objects, a.Thread, a.Do, a.Name, a.Arg)
		if came != api.AtomDone || a.Back >= 0 && answer != a.Answer {
			continue
		}
		if s.goesOn(next, done|1<<k) {
			return true
		}
	}
	s.nowhere[key] = struct{}{}
	return false
}

func (s *search) allBack(done uint64) bool {
	for k, a := range s.acts {
		if a.Back >= 0 && done&(1<<k) == 0 {
			return false
		}
	}
	return bits.Len64(done) <= len(s.acts)
}

// mayBeNext tells whether no act that is to be done yet is ahead of act k.
func (s *search) mayBeNext(k int, done uint64) bool {
	for i, a := range s.acts {
		if done&(1<<i) == 0 && a.Back >= 0 && a.Back < s.acts[k].Call {
			return false
		}
	}
	return true
}

// The search itself finds no order where there is none.
func TestOrdersAreToldApart(t *testing.T) {
	q := []api.Atom{{Name: "q", Cap: 1}, {Name: "l"}}
	put := api.Act{Do: api.DoPut, Name: "q", Arg: 5, Call: 0, Back: 3, Answer: 1}
	get := api.Act{Thread: 1, Do: api.DoGet, Name: "q", Call: 1, Back: 2, Answer: 5}
	late := api.Act{Thread: 1, Do: api.DoGet, Name: "q", Call: 4, Back: 5, Answer: -1}
	nothing, wrong, open := get, get, get
	nothing.Answer, wrong.Answer, open.Back = -1, 6, -1
	acq := api.Act{Do: api.DoAcquire, Name: "l", Call: 0, Back: 1}
	other := api.Act{Thread: 1, Do: api.DoAcquire, Name: "l", Call: 2, Back: 3}
	rel := api.Act{Do: api.DoRelease, Name: "l", Call: 4, Back: 5}
	for k, c := range []struct {
		acts []api.Act
		want bool
	}{
		{nil, true},
		{[]api.Act{put, get}, true},
		{[]api.Act{put, nothing}, true},
		{[]api.Act{put, wrong}, false},
		{[]api.Act{put, open, late}, true},
		{[]api.Act{put, late}, false},
		{[]api.Act{get}, false},
		{[]api.Act{acq, other}, false},
		{[]api.Act{acq, other, rel}, false},
		{[]api.Act{acq, rel}, true},
		{[]api.Act{rel}, false},
	} {
		if hasOrder(q, c.acts) != c.want {
			t.Errorf("case %d: want %v", k, c.want)
		}
	}
}
