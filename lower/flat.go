package lower

import "cotter/api"

// flat works out what an operation needs, in its order, and then does what others see of it at once.
func (l *lowerer) flat(f api.Flat) {
	switch f.Op {
	case api.FlSet:
		l.add(api.Op{Op: api.OpCopy, A: l.value(f.E), D: f.A})
	case api.FlSetG:
		l.setGlobal(f)
	case api.FlCall:
		l.call(f)
	case api.FlGet:
		l.add(api.Op{Op: api.OpGet, D: f.A, Name: f.Name})
	case api.FlPut:
		l.add(api.Op{Op: api.OpPut, D: f.A, Name: f.Name, B: l.value(f.E)})
	case api.FlAcq:
		l.add(api.Op{Op: api.OpAcq, Name: f.Name})
	case api.FlRel:
		l.add(api.Op{Op: api.OpRel, Name: f.Name})
	case api.FlTest:
		l.leap(api.Op{Op: api.OpIf, A: l.value(f.E), To: f.To})
	case api.FlJump:
		l.leap(api.Op{Op: api.OpJump, To: f.To})
	case api.FlPrint:
		l.add(api.Op{Op: api.OpPrint, A: l.value(f.E)})
	case api.FlRet:
		l.back(f)
	case api.FlEnd:
		l.add(api.Op{Op: api.OpEnd})
	}
}

// setGlobal keeps the element's number while the value is worked out: whether there is such an element is asked behind both.
func (l *lowerer) setGlobal(f api.Flat) {
	at := -1
	if f.I != -1 {
		at = l.value(f.I)
	}
	l.add(api.Op{Op: api.OpStore, Name: f.Name, A: at, B: l.value(f.E)})
}

func (l *lowerer) call(f api.Flat) {
	var args []int
	for _, e := range f.Args {
		args = append(args, l.value(e))
	}
	l.add(api.Op{Op: api.OpCall, D: f.A, Name: f.Name, Args: args})
}

func (l *lowerer) back(f api.Flat) {
	at := 0
	if f.E == -1 {
		at = l.number(0)
	} else {
		at = l.value(f.E)
	}
	l.add(api.Op{Op: api.OpRet, A: at})
}
