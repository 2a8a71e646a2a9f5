package opt

import (
	"cotter/api"
	"cotter/word"
)

// faultDivide is the number of a division's fault.
const faultDivide = 1

// The sides on which a number may stand.
const (
	left = 1 << iota
	right
	both = left | right
)

// rules are of operations with a number n on one of those sides, whatever stands on the other: they are just what stands there (other), or a number.
var rules = [...]struct {
	what  int
	side  int
	n     int64
	other bool
	gives int64
}{
	{api.ADD, both, 0, true, 0},
	{api.SUB, right, 0, true, 0},
	{api.MUL, both, 1, true, 0},
	{api.MUL, both, 0, false, 0},
	{api.DIV, right, 1, true, 0},
	{api.REM, right, 1, false, 0},
	{api.REM, right, -1, false, 0},
	{api.AND, both, -1, true, 0},
	{api.AND, both, 0, false, 0},
	{api.OR, both, 0, true, 0},
	{api.OR, both, -1, false, -1},
	{api.XOR, both, 0, true, 0},
	{api.SHL, right, 0, true, 0},
	{api.SHL, left, 0, false, 0},
	{api.SAR, right, 0, true, 0},
	{api.SAR, left, 0, false, 0},
	{api.SAR, left, -1, false, -1},
}

// fold is a plainer operation that does the same, by what is known ahead of it; one of kind 0, if it does nothing. It reads no copies.
func (k *knower) fold(o api.Op) api.Op {
	switch o.Op {
	case api.OpConst:
		return k.foldConst(o)
	case api.OpCopy:
		return k.foldCopy(o)
	case api.OpBin:
		return k.foldBin(o)
	case api.OpIf:
		return k.foldIf(o)
	}
	return o
}

func (k *knower) foldConst(o api.Op) api.Op {
	if n, ok := k.number(o.D); ok && n == o.N {
		return api.Op{}
	}
	return o
}

func (k *knower) foldCopy(o api.Op) api.Op {
	if n, ok := k.number(o.A); ok {
		return k.asConst(o.D, n)
	}
	if k.root(o.D) == o.A {
		return api.Op{}
	}
	return o
}

func (k *knower) foldIf(o api.Op) api.Op {
	n, ok := k.number(o.A)
	switch {
	case !ok:
		return o
	case n == 0:
		return api.Op{Op: api.OpJump, To: o.To}
	}
	return api.Op{}
}

func (k *knower) asConst(d int, n int64) api.Op {
	return k.foldConst(api.Op{Op: api.OpConst, D: d, N: n})
}

func (k *knower) asCopy(d int, a int) api.Op {
	return k.foldCopy(api.Op{Op: api.OpCopy, D: d, A: a})
}

// foldBin has a fault at once, if the divisor is 0, whatever is divided.
func (k *knower) foldBin(o api.Op) api.Op {
	a, knowsA := k.number(o.A)
	b, knowsB := k.number(o.B)
	n, e := word.Bin(o.What, a, b)
	switch {
	case knowsB && e != api.OK:
		return api.Op{Op: api.OpTrap, N: faultDivide}
	case knowsA && knowsB:
		return k.asConst(o.D, n)
	case knowsA:
		return k.rule(o, left, a, o.B)
	case knowsB:
		return k.rule(o, right, b, o.A)
	case o.A == o.B:
		return k.twice(o)
	}
	return o
}

func (k *knower) rule(o api.Op, side int, n int64, other int) api.Op {
	for _, r := range rules {
		switch {
		case r.what != o.What || r.side&side == 0 || r.n != n:
		case r.other:
			return k.asCopy(o.D, other)
		default:
			return k.asConst(o.D, r.gives)
		}
	}
	return o
}

// twice is of the same temp on both sides. A quotient of it is left as it is: the temp may be 0.
func (k *knower) twice(o api.Op) api.Op {
	switch o.What {
	case api.SUB, api.XOR, api.NE, api.LT:
		return k.asConst(o.D, 0)
	case api.EQ, api.LE:
		return k.asConst(o.D, 1)
	case api.AND, api.OR:
		return k.asCopy(o.D, o.A)
	}
	return o
}
