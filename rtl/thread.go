package rtl

import (
	"cotter/api"
	"cotter/word"
)

const (
	faultNone   = 0
	faultDivide = 1
	faultIndex  = 2
)

// frame is a call that is open: At is the operation that is next or, while another call is open above it, the one that called.
type frame struct {
	code  []api.Op
	at    int
	temps []int64
}

// thread is its newest frame, and those below it.
type thread struct {
	frame
	callers []frame
	number  int
	ended   bool
}

func (m *Machine) open(name string) frame {
	f := m.funcs[name]
	return frame{code: f.Code, temps: make([]int64, f.Temps)}
}

func (m *Machine) end(t *thread, kind int, n int64) {
	m.world.See(t.number, kind, n)
	t.ended = true
}

// operate does a thread's operation, and tells whether it could.
func (m *Machine) operate(t *thread) bool {
	o := t.code[t.at]
	switch o.Op {
	case api.OpAcq:
		return m.atomic(t, api.DoAcquire, 0)
	case api.OpRel:
		return m.atomic(t, api.DoRelease, 0)
	case api.OpPut:
		return m.atomic(t, api.DoPut, t.temps[o.B])
	case api.OpGet:
		return m.atomic(t, api.DoGet, 0)
	case api.OpCall:
		m.call(t, o)
	case api.OpRet:
		t.back(t.temps[o.A])
	case api.OpJump:
		t.at = o.To
	case api.OpIf:
		t.test(o)
	case api.OpEnd:
		m.end(t, api.EvEnd, 0)
	case api.OpTrap:
		m.end(t, api.EvFault, o.N)
	default:
		m.simple(t, o)
	}
	return true
}

// simple does an operation behind which the next one comes, unless it has a fault.
func (m *Machine) simple(t *thread, o api.Op) {
	n := faultNone
	switch o.Op {
	case api.OpConst:
		t.temps[o.D] = o.N
	case api.OpCopy:
		t.temps[o.D] = t.temps[o.A]
	case api.OpBin:
		n = t.compute(o)
	case api.OpLoad:
		n = m.load(t, o)
	case api.OpStore:
		n = m.store(t, o)
	case api.OpPrint:
		m.print(t, t.temps[o.A])
	}
	if n != faultNone {
		m.end(t, api.EvFault, int64(n))
		return
	}
	t.at++
}

// compute, load and store answer the fault's number.
func (t *thread) compute(o api.Op) int {
	n, e := word.Bin(o.What, t.temps[o.A], t.temps[o.B])
	if e != api.OK {
		return faultDivide
	}
	t.temps[o.D] = n
	return faultNone
}

func (m *Machine) load(t *thread, o api.Op) int {
	n, ok := m.world.Load(o.Name, t.element(o.A))
	if !ok {
		return faultIndex
	}
	t.temps[o.D] = n
	return faultNone
}

func (m *Machine) store(t *thread, o api.Op) int {
	if !m.world.Store(o.Name, t.element(o.A), t.temps[o.B]) {
		return faultIndex
	}
	return faultNone
}

// element is the first one of what is no array: that has no other.
func (t *thread) element(a int) int64 {
	if a == -1 {
		return 0
	}
	return t.temps[a]
}

func (m *Machine) print(t *thread, n int64) {
	m.world.See(t.number, api.EvPrint, n)
	m.acts = append(m.acts, api.Act{Thread: t.number, Do: api.DoPrint, Arg: n})
}

func (t *thread) test(o api.Op) {
	if t.temps[o.A] == 0 {
		t.at = o.To
	} else {
		t.at++
	}
}

func (m *Machine) call(t *thread, o api.Op) {
	opened := m.open(o.Name)
	for i, a := range o.Args {
		opened.temps[i] = t.temps[a]
	}
	t.callers = append(t.callers, t.frame)
	t.frame = opened
}

func (t *thread) back(n int64) {
	last := len(t.callers) - 1
	t.frame = t.callers[last]
	t.callers = t.callers[:last]
	t.take(n)
}

// take lets an operation's answer stand in its temp, if it has one, and goes on behind it.
func (t *thread) take(n int64) {
	if d := t.code[t.at].D; d != -1 {
		t.temps[d] = n
	}
	t.at++
}

// atomic takes an answer of queues alone: what a lock's operation has as D counts for nothing.
func (m *Machine) atomic(t *thread, do int, arg int64) bool {
	name := t.code[t.at].Name
	answer, came := m.world.Atomic(t.number, do, name, arg)
	if came != api.AtomDone {
		return false
	}
	m.acts = append(m.acts, api.Act{Thread: t.number, Do: do, Name: name, Arg: arg, Answer: answer})
	if do == api.DoPut || do == api.DoGet {
		t.take(answer)
	} else {
		t.at++
	}
	return true
}
