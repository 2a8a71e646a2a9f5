package src

import (
	"slices"

	"cotter/api"
	"cotter/world"
)

// body is a flat form with the module whose expressions it has. Numbers are its variables'.
type body struct {
	api.Module
	api.Body
	numbers map[string]int
}

// frame is a call that is open: At is the operation that is next or, while another call is open above it, the one that called.
type frame struct {
	*body
	at   int
	vars []int64
}

func newFrame(b *body) frame {
	return frame{body: b, vars: make([]int64, len(b.Vars))}
}

// thread is its newest frame, and those below it.
type thread struct {
	frame
	callers []frame
	number  int
	ended   bool
}

// addBodies keeps of a module what its bodies need: their flat forms, and a copy of its expressions.
func (m *Machine) addBodies(one api.Module) {
	kept := api.Module{Exps: slices.Clone(one.Exps)}
	for _, flat := range flatten(one) {
		b := &body{Module: kept, Body: flat, numbers: map[string]int{}}
		for number, name := range flat.Vars {
			b.numbers[name] = number
		}
		m.bodies[flat.Name] = b
	}
}

func (m *Machine) addThread(name string) {
	m.threads = append(m.threads, thread{frame: newFrame(m.bodies[name]), number: len(m.names)})
	m.names = append(m.names, name)
}

// going is the thread that a pick names, or nil, if that has ended.
func (m *Machine) going(pick int) *thread {
	if m == nil {
		return nil
	}
	t := &m.threads[world.Turn(pick, len(m.threads))]
	if t.ended {
		return nil
	}
	return t
}

func (m *Machine) end(t *thread, kind int, n int64) {
	m.world.See(t.number, kind, n)
	t.ended = true
}

// operate does a thread's operation, and tells whether it could. Where it panics at a fault, nothing is changed yet.
func (m *Machine) operate(t *thread) bool {
	op := t.Code[t.at]
	switch op.Op {
	case api.FlGet, api.FlPut, api.FlAcq, api.FlRel:
		return m.atomic(t, op)
	case api.FlCall:
		m.call(t, op)
	case api.FlRet:
		m.back(t, op)
	case api.FlEnd:
		m.end(t, api.EvEnd, 0)
	case api.FlJump:
		t.at = op.To
	case api.FlTest:
		m.test(t, op)
	default:
		m.simple(t, op)
		t.at++
	}
	return true
}

// simple does an operation behind which the next one comes.
func (m *Machine) simple(t *thread, op api.Flat) {
	switch op.Op {
	case api.FlSet:
		t.vars[op.A] = m.work(&t.frame, op.E)
	case api.FlSetG:
		m.setGlobal(t, op)
	case api.FlPrint:
		m.world.See(t.number, api.EvPrint, m.work(&t.frame, op.E))
	}
}

// setGlobal works both out ahead of asking whether there is such an element: the first fault counts.
func (m *Machine) setGlobal(t *thread, op api.Flat) {
	at := int64(0)
	if op.I != -1 {
		at = m.work(&t.frame, op.I)
	}
	n := m.work(&t.frame, op.E)
	if !m.world.Store(op.Name, at, n) {
		panic(faultIndex)
	}
}

func (m *Machine) test(t *thread, op api.Flat) {
	if m.work(&t.frame, op.E) == 0 {
		t.at = op.To
	} else {
		t.at++
	}
}

func (m *Machine) call(t *thread, op api.Flat) {
	opened := newFrame(m.bodies[op.Name])
	for i, e := range op.Args {
		opened.vars[i] = m.work(&t.frame, e)
	}
	t.callers = append(t.callers, t.frame)
	t.frame = opened
}

func (m *Machine) back(t *thread, op api.Flat) {
	n := int64(0)
	if op.E != -1 {
		n = m.work(&t.frame, op.E)
	}
	last := len(t.callers) - 1
	t.frame = t.callers[last]
	t.callers = t.callers[:last]
	t.take(n)
}

// take lets an operation's answer stand in its variable, if it has one, and goes on behind it.
func (t *thread) take(n int64) {
	if number := t.Code[t.at].A; number != -1 {
		t.vars[number] = n
	}
	t.at++
}

// atomic takes an answer of queues alone: a lock's operation has none.
func (m *Machine) atomic(t *thread, op api.Flat) bool {
	act := m.next(t)
	answer, came := m.world.Atomic(t.number, act.Do, act.Name, act.Arg)
	if came != api.AtomDone {
		return false
	}
	if op.Op == api.FlGet || op.Op == api.FlPut {
		t.take(answer)
	} else {
		t.at++
	}
	return true
}

// next is what a thread does next, as far as others see it.
func (m *Machine) next(t *thread) api.Act {
	op := t.Code[t.at]
	act := api.Act{Thread: t.number, Do: shownAs(op.Op), Back: -1}
	if act.Do != 0 {
		act.Name = op.Name
	}
	if op.Op == api.FlPut || op.Op == api.FlPrint {
		act.Arg = m.work(&t.frame, op.E)
	}
	return act
}

// shownAs is 0 of what nobody sees.
func shownAs(op int) int {
	switch op {
	case api.FlAcq:
		return api.DoAcquire
	case api.FlRel:
		return api.DoRelease
	case api.FlPut:
		return api.DoPut
	case api.FlGet:
		return api.DoGet
	case api.FlPrint:
		return api.DoPrint
	}
	return 0
}
