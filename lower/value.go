package lower

import (
	"cotter/api"
	"cotter/sign"
)

// value works an expression out, and answers the temp in which its value stands: a variable's own one, which nothing changes while an expression is worked out, or else the one that was the next to be taken, and no other one stays taken.
func (l *lowerer) value(i int) int {
	e := l.Exps[i]
	switch e.Kind {
	case api.ExpNum:
		return l.number(e.N)
	case api.ExpName:
		return l.named(e.Name)
	case api.ExpIndex:
		return l.element(e)
	case api.ExpOne:
		return l.one(e)
	}
	switch e.Op {
	case "&&":
		return l.both(e)
	case "||":
		return l.either(e)
	}
	return l.two(e)
}

func (l *lowerer) number(n int64) int {
	d := l.take()
	l.add(api.Op{Op: api.OpConst, D: d, N: n})
	return d
}

func (l *lowerer) named(name string) int {
	if number, ok := l.numbers[name]; ok {
		return number
	}
	d := l.take()
	l.add(api.Op{Op: api.OpLoad, D: d, Name: name, A: -1})
	return d
}

func (l *lowerer) element(e api.Exp) int {
	base := l.top
	at := l.value(e.L)
	l.drop(base)
	d := l.take()
	l.add(api.Op{Op: api.OpLoad, D: d, Name: e.Name, A: at})
	return d
}

func (l *lowerer) one(e api.Exp) int {
	base := l.top
	n := l.value(e.L)
	zero := l.number(0)
	l.drop(base)
	if e.Op == "!" {
		return l.bin(api.EQ, n, zero)
	}
	return l.bin(api.SUB, zero, n)
}

func (l *lowerer) two(e api.Exp) int {
	base := l.top
	left := l.value(e.L)
	right := l.value(e.R)
	l.drop(base)
	what, a, b := sign.Of(e.Op, left, right)
	return l.bin(what, a, b)
}

func (l *lowerer) bin(what int, a int, b int) int {
	d := l.take()
	l.add(api.Op{Op: api.OpBin, What: what, D: d, A: a, B: b})
	return d
}

// both leaves the left side's value, where that is 0, as it is.
func (l *lowerer) both(e api.Exp) int {
	base := l.top
	over := l.add(api.Op{Op: api.OpIf, A: l.held(e.L)})
	l.drop(base)
	d := l.truth(e.R)
	l.land(over)
	return d
}

func (l *lowerer) either(e api.Exp) int {
	base := l.top
	on := l.add(api.Op{Op: api.OpIf, A: l.value(e.L)})
	l.drop(base)
	l.number(1)
	over := l.add(api.Op{Op: api.OpJump})
	l.drop(base)
	l.land(on)
	d := l.truth(e.R)
	l.land(over)
	return d
}

// held works an expression out into the next temp, even if it is a variable.
func (l *lowerer) held(i int) int {
	base := l.top
	n := l.value(i)
	if n == base {
		return n
	}
	d := l.take()
	l.add(api.Op{Op: api.OpCopy, D: d, A: n})
	return d
}

// truth is 1, if an expression's value is not 0, else 0; in the next temp.
func (l *lowerer) truth(i int) int {
	if l.isTruth(i) {
		return l.value(i)
	}
	base := l.top
	n := l.value(i)
	zero := l.number(0)
	l.drop(base)
	return l.bin(api.NE, n, zero)
}

// isTruth is of what is 1 or 0 anyway.
func (l *lowerer) isTruth(i int) bool {
	switch l.Exps[i].Op {
	case "!", "&&", "||", "==", "!=", "<", "<=", ">", ">=":
		return true
	}
	return false
}
