// Package flow is what all that goes along functions in the intermediate form needs: what each operation has, and what comes behind it. It is no layer: several of them share it.
// An operation of kind 0 has nothing, and the next one comes behind it: so stands what was taken out of a function till the others move up.
package flow

import (
	"iter"
	"slices"

	"cotter/api"
)

// mostTrap is the greatest number of a fault.
const mostTrap = 127

// Whether a field is a temp: no, yes, or either a temp or -1.
const (
	no = iota
	yes
	orNone
)

// shape is which fields an operation has, and whether none comes behind it in its order.
type shape struct {
	d, a, b                 int
	what, name, n, args, to bool
	ends                    bool
}

var shapes = [...]shape{
	api.OpConst: {d: yes, n: true},
	api.OpCopy:  {d: yes, a: yes},
	api.OpBin:   {d: yes, a: yes, b: yes, what: true},
	api.OpLoad:  {d: yes, a: orNone, name: true},
	api.OpStore: {a: orNone, b: yes, name: true},
	api.OpCall:  {d: orNone, name: true, args: true},
	api.OpGet:   {d: orNone, name: true},
	api.OpPut:   {d: orNone, b: yes, name: true},
	api.OpAcq:   {name: true},
	api.OpRel:   {name: true},
	api.OpJump:  {to: true, ends: true},
	api.OpIf:    {a: yes, to: true},
	api.OpPrint: {a: yes},
	api.OpRet:   {a: yes, ends: true},
	api.OpEnd:   {ends: true},
	api.OpTrap:  {n: true, ends: true},
}

// Plain is an operation without all that its kind does not have, its list new.
func Plain(o api.Op) api.Op {
	s, p := shapes[o.Op], api.Op{Op: o.Op}
	if s.d != no {
		p.D = o.D
	}
	if s.a != no {
		p.A = o.A
	}
	if s.b != no {
		p.B = o.B
	}
	if s.what {
		p.What = o.What
	}
	if s.name {
		p.Name = o.Name
	}
	if s.n {
		p.N = o.N
	}
	if s.args {
		p.Args = slices.Clone(o.Args)
	}
	if s.to {
		p.To = o.To
	}
	return p
}

// Writes is the temp that an operation writes, or -1.
func Writes(o api.Op) int {
	if shapes[o.Op].d == no {
		return -1
	}
	return o.D
}

// Reads goes along the temps that an operation reads.
func Reads(o api.Op) iter.Seq[int] {
	return func(yield func(int) bool) {
		s := shapes[o.Op]
		if s.a != no && o.A != -1 && !yield(o.A) {
			return
		}
		if s.b != no && !yield(o.B) {
			return
		}
		if !s.args {
			return
		}
		for _, t := range o.Args {
			if !yield(t) {
				return
			}
		}
	}
}

// Turn is an operation that reads other temps, its list new.
func Turn(o api.Op, other func(int) int) api.Op {
	s := shapes[o.Op]
	if s.a != no && o.A != -1 {
		o.A = other(o.A)
	}
	if s.b != no {
		o.B = other(o.B)
	}
	if s.args {
		o.Args = slices.Clone(o.Args)
		for i, t := range o.Args {
			o.Args[i] = other(t)
		}
	}
	return o
}

// Falls tells whether the next operation may come behind this one, Leads whether that at To may.
func Falls(o api.Op) bool {
	return !shapes[o.Op].ends
}

func Leads(o api.Op) bool {
	return shapes[o.Op].to
}

// Next goes along the places that may come behind one.
func Next(code []api.Op, at int) iter.Seq[int] {
	return func(yield func(int) bool) {
		o := code[at]
		if Falls(o) && !yield(at+1) {
			return
		}
		if Leads(o) {
			yield(o.To)
		}
	}
}
