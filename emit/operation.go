package emit

import "cotter/api"

// operation writes what one does. What it writes may have the place of what it reads.
func (w *writer) operation(o api.Op) {
	switch o.Op {
	case api.OpConst:
		d := w.target(o.D)
		w.number(d, o.N)
		w.keep(o.D, d)
	case api.OpCopy:
		w.copied(o)
	case api.OpBin:
		w.compute(o)
	case api.OpLoad:
		w.load(o)
	case api.OpStore:
		w.store(o)
	case api.OpJump:
		w.name(api.Ins{Op: api.JMP}, w.at(o.To))
	case api.OpIf:
		w.name(api.Ins{Op: api.JZ, A: w.read(o.A, spare)}, w.at(o.To))
	case api.OpPrint:
		w.add(api.Ins{Op: api.OUT, A: w.read(o.A, spare)})
	case api.OpEnd:
		w.add(api.Ins{Op: api.HALT})
	case api.OpTrap:
		w.add(api.Ins{Op: api.TRAP, N: o.N})
	default:
		w.transfer(o)
	}
}

// transfer is of operations by which another function is called, or gone back to.
func (w *writer) transfer(o api.Op) {
	switch o.Op {
	case api.OpCall:
		for i, t := range o.Args {
			w.add(api.Ins{Op: api.ST, A: api.Stack, B: w.read(t, spare), N: int64(-belowCaller - wordBytes*i)})
		}
		w.call(o.Name, o.D)
	case api.OpGet:
		w.call(o.Name+".get", o.D)
	case api.OpPut:
		w.fetch(argument, o.B)
		w.call(o.Name+".put", o.D)
	case api.OpAcq:
		w.call(o.Name+".acq", -1)
	case api.OpRel:
		w.call(o.Name+".rel", -1)
	case api.OpRet:
		w.fetch(answer, o.A)
		w.move(api.ADD)
		w.add(api.Ins{Op: api.RET})
	}
}

// call keeps the answer, unless the temp is -1.
func (w *writer) call(name string, temp int) {
	w.name(api.Ins{Op: api.CALL}, name)
	if temp != -1 {
		w.keep(temp, answer)
	}
}

func (w *writer) copied(o api.Op) {
	if w.Where[o.D] != w.Where[o.A] {
		w.keep(o.D, w.read(o.A, w.target(o.D)))
	}
}

// compute works in the place of what it writes, unless that holds the right side, which is needed last.
func (w *writer) compute(o api.Op) {
	d := w.target(o.D)
	if d == w.Where[o.B] && d != w.Where[o.A] {
		d = spare
	}
	w.fetch(d, o.A)
	w.add(api.Ins{Op: o.What, A: d, B: w.read(o.B, helper)})
	w.keep(o.D, d)
}

func (w *writer) load(o api.Op) {
	w.find(o)
	d := w.target(o.D)
	w.add(api.Ins{Op: api.LD, A: d, B: address})
	w.keep(o.D, d)
}

func (w *writer) store(o api.Op) {
	w.find(o)
	w.add(api.Ins{Op: api.ST, A: address, B: w.read(o.B, spare)})
}

// find lets address be that of a global, or of its element A.
func (w *writer) find(o api.Op) {
	if o.A == -1 {
		w.name(api.Ins{Op: api.ADR, A: address}, o.Name)
		return
	}
	at := w.read(o.A, spare)
	w.bound(at, w.names[o.Name].N)
	w.name(api.Ins{Op: api.ADR, A: address}, o.Name)
	w.add(api.Ins{Op: api.MOV, A: helper, B: at})
	for range 3 { // an element has eight bytes
		w.add(api.Ins{Op: api.ADD, A: helper, B: helper})
	}
	w.add(api.Ins{Op: api.ADD, A: address, B: helper})
}

// bound goes to the trap, if a register holds no number from 0 to one less than n: then it is below 0, or n - 1 less it is (which overflows only where it is below 0 itself), so that both together, as bits, have a sign.
func (w *writer) bound(register int, n int) {
	w.number(address, int64(n-1))
	w.add(api.Ins{Op: api.SUB, A: address, B: register})
	w.add(api.Ins{Op: api.OR, A: address, B: register})
	w.number(helper, 0)
	w.add(api.Ins{Op: api.LT, A: address, B: helper})
	w.name(api.Ins{Op: api.JNZ, A: address}, w.trap())
	w.trapped = true
}
