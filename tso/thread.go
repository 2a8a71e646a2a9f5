package tso

import (
	"cotter/api"
	"cotter/ins"
	"cotter/step"
)

const (
	trapMemory = 2
	trapCode   = 3
)

// thread is its registers, and its stores that wait, the oldest first.
type thread struct {
	api.CPU
	number int
	waits  []api.Wait
}

func newThread(number int, at int) thread {
	t := thread{number: number}
	t.PC = api.CodeBase + int64(at)
	t.R[api.Stack] = stackBase(number + 1)
	return t
}

func (t *thread) trap(n int64) {
	t.State = api.Trapped
	t.Trap = n
}

// newest is the thread's newest waiting store to an address.
func (t *thread) newest(addr int64) (int64, bool) {
	for i := len(t.waits) - 1; i >= 0; i-- {
		if t.waits[i].Addr == addr {
			return t.waits[i].Value, true
		}
	}
	return 0, false
}

// goOn does a thread's step, unless it runs no more.
func (m *Machine) goOn(t *thread) bool {
	if t.State != api.Running {
		return false
	}
	m.doInstruction(t)
	switch t.State {
	case api.Halted:
		m.see(t, api.EvEnd, 0)
	case api.Trapped:
		m.see(t, api.EvFault, t.Trap)
	}
	return true
}

func (m *Machine) see(t *thread, kind int, n int64) {
	m.events = append(m.events, api.Event{Thread: t.number, Kind: kind, N: n})
}

// doInstruction turns the registers only when memory has answered: a thread that traps keeps those ahead of the instruction.
func (m *Machine) doInstruction(t *thread) {
	at := int(t.PC - api.CodeBase)
	i, behind, e := ins.Decode(m.code, at)
	if e != api.OK {
		t.trap(trapCode)
		return
	}
	c, r := step.Start(t.CPU, i, behind-at)
	n, e := m.answer(t, r)
	if e != api.OK {
		t.trap(trapMemory)
		return
	}
	t.CPU = step.Finish(c, r, n)
}

// answer does what an instruction asks of memory, and tells what was read.
func (m *Machine) answer(t *thread, r api.Req) (int64, api.Errno) {
	switch r.Kind {
	case api.ReqLoad:
		return m.load(t, r.Addr)
	case api.ReqStore:
		return 0, m.store(t, r.Addr, r.Value)
	case api.ReqSwap:
		return m.exchange(t, r.Addr, func(int64) int64 { return r.Value })
	case api.ReqAdd:
		return m.exchange(t, r.Addr, func(v int64) int64 { return v + r.Value })
	case api.ReqFence:
		m.leaveAll(t)
	case api.ReqOut:
		m.see(t, api.EvPrint, r.Value)
	}
	return 0, api.OK
}

func (m *Machine) load(t *thread, addr int64) (int64, api.Errno) {
	if n, ok := t.newest(addr); ok {
		return n, api.OK
	}
	return m.memory.Load(addr)
}

// store asks the address first: one that is none lets no store leave.
func (m *Machine) store(t *thread, addr int64, n int64) api.Errno {
	if _, e := m.memory.Load(addr); e != api.OK {
		return e
	}
	if len(t.waits) == api.MaxBuffer {
		m.leave(t)
	}
	t.waits = append(t.waits, api.Wait{Addr: addr, Value: n})
	return api.OK
}

// exchange asks the address first, as store does, and reads it again when the thread's own stores to it have left.
func (m *Machine) exchange(t *thread, addr int64, turned func(int64) int64) (int64, api.Errno) {
	if _, e := m.memory.Load(addr); e != api.OK {
		return 0, e
	}
	m.leaveAll(t)
	v, _ := m.memory.Load(addr)
	return v, m.memory.Store(addr, turned(v))
}

// leave lets a thread's oldest store leave, if one waits.
func (m *Machine) leave(t *thread) bool {
	if len(t.waits) == 0 {
		return false
	}
	oldest := t.waits[0]
	m.memory.Store(oldest.Addr, oldest.Value)
	t.waits = append(t.waits[:0], t.waits[1:]...)
	return true
}

func (m *Machine) leaveAll(t *thread) {
	for m.leave(t) {
	}
}
