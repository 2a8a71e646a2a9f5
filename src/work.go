package src

import (
	"cotter/api"
	"cotter/sign"
	"cotter/word"
)

// fault is what is panicked where an expression can't be worked out.
type fault int64

const (
	faultDivide fault = 1
	faultIndex  fault = 2
)

// faultOf does what may panic at a fault, and answers the fault's number, or 0.
func faultOf(do func()) (n int64) {
	defer func() {
		if thrown := recover(); thrown != nil {
			n = int64(thrown.(fault))
		}
	}()
	do()
	return 0
}

// work works an expression out in a frame.
func (m *Machine) work(f *frame, i int) int64 {
	e := f.Exps[i]
	switch e.Kind {
	case api.ExpNum:
		return e.N
	case api.ExpName:
		return m.named(f, e.Name)
	case api.ExpIndex:
		return m.element(e.Name, m.work(f, e.L))
	case api.ExpOne:
		return one(e.Op, m.work(f, e.L))
	}
	return m.two(f, e)
}

// named asks for a variable first: another module's global may have its name.
func (m *Machine) named(f *frame, name string) int64 {
	if number, ok := f.numbers[name]; ok {
		return f.vars[number]
	}
	return m.element(name, 0)
}

func (m *Machine) element(name string, at int64) int64 {
	n, ok := m.world.Load(name, at)
	if !ok {
		panic(faultIndex)
	}
	return n
}

func one(sign string, n int64) int64 {
	if sign == "!" {
		return truth(n == 0)
	}
	return binary(api.SUB, 0, n)
}

func (m *Machine) two(f *frame, e api.Exp) int64 {
	l := m.work(f, e.L)
	switch {
	case e.Op == "&&" && l == 0:
		return 0
	case e.Op == "||" && l != 0:
		return 1
	}
	r := m.work(f, e.R)
	if e.Op == "&&" || e.Op == "||" {
		return truth(r != 0)
	}
	what, a, b := sign.Of(e.Op, l, r)
	return binary(what, a, b)
}

func binary(op int, a int64, b int64) int64 {
	n, e := word.Bin(op, a, b)
	if e != api.OK {
		panic(faultDivide)
	}
	return n
}

func truth(b bool) int64 {
	if b {
		return 1
	}
	return 0
}
