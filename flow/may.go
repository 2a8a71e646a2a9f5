package flow

import "cotter/api"

// MayBe tells whether all holds of a function that hangs on no name: not on its own, nor on those in its operations.
func MayBe(f api.Func) bool {
	if f.Params < 0 || f.Params > f.Temps || f.Temps > api.MaxTemps {
		return false
	}
	if len(f.Code) < 1 || len(f.Code) > api.MaxOps {
		return false
	}
	for _, o := range f.Code {
		if !mayDo(f, o) {
			return false
		}
	}
	return !Falls(f.Code[len(f.Code)-1])
}

func mayDo(f api.Func, o api.Op) bool {
	if o.Op < api.OpConst || o.Op > api.OpTrap {
		return false
	}
	s := shapes[o.Op]
	switch {
	case !mayStand(f, s.d, o.D) || !mayStand(f, s.a, o.A) || !mayStand(f, s.b, o.B):
		return false
	case s.args && !areTemps(f, o.Args):
		return false
	case s.what && (o.What < api.ADD || o.What > api.LE):
		return false
	case s.to && (o.To < 0 || o.To >= len(f.Code)):
		return false
	}
	return o.Op != api.OpTrap || o.N >= 1 && o.N <= mostTrap
}

// mayStand is of a field that is a temp, or -1, or neither, as kind says.
func mayStand(f api.Func, kind int, t int) bool {
	return kind == no || kind == orNone && t == -1 || isTemp(f, t)
}

func isTemp(f api.Func, t int) bool {
	return t >= 0 && t < f.Temps
}

func areTemps(f api.Func, l []int) bool {
	for _, t := range l {
		if !isTemp(f, t) {
			return false
		}
	}
	return true
}
