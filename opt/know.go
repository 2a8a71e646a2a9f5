package opt

import (
	"maps"

	"cotter/api"
	"cotter/flow"
)

// isNumber stands in a fact for no temp.
const isNumber = -1

// fact is what is known of a temp: that it is just what the temp of is, or, of being isNumber, that it is n.
type fact struct {
	of int
	n  int64
}

// facts are what is known of temps. A temp of a fact has itself no fact but a number.
type facts map[int]fact

// root is the temp of which one is a copy, else itself.
func (k facts) root(t int) int {
	if f, ok := k[t]; ok && f.of != isNumber {
		return f.of
	}
	return t
}

func (k facts) number(t int) (int64, bool) {
	f, ok := k[k.root(t)]
	return f.n, ok
}

// forget is of a temp that is written.
func (k facts) forget(t int) {
	delete(k, t)
	for other, f := range k {
		if f.of == t {
			delete(k, other)
		}
	}
}

// meet forgets what is not known on another way as well.
func (k facts) meet(other facts) {
	for t, f := range k {
		if g, ok := other[t]; !ok || g != f {
			delete(k, t)
		}
	}
}

// knower goes along the operations in their order, with what is known ahead of each. Here is whether one comes to that place at all; waits is what is known on the ways that lead on, to places that are not come to yet; heads are places to which a way leads back: nothing is known there.
type knower struct {
	*plan
	facts
	here  bool
	waits map[int]facts
	heads []bool
}

// know puts numbers in the place of what is known, and copied temps in that of their copies.
func (p *plan) know() {
	k := &knower{plan: p, facts: facts{}, here: true, waits: map[int]facts{}, heads: p.heads()}
	for at := range p.Code {
		k.arrive(at)
		if k.here {
			k.visit(at)
		}
	}
}

func (p *plan) heads() []bool {
	heads := make([]bool, len(p.Code))
	for at, o := range p.Code {
		if flow.Leads(o) && o.To <= at {
			heads[o.To] = true
		}
	}
	return heads
}

func (k *knower) arrive(at int) {
	led, ok := k.waits[at]
	delete(k.waits, at)
	switch {
	case k.heads[at]:
		k.facts, k.here = facts{}, true
	case ok && k.here:
		k.meet(led)
	case ok:
		k.facts, k.here = led, true
	}
}

func (k *knower) visit(at int) {
	was := k.Code[at]
	o := k.fold(flow.Turn(was, k.copied))
	if o.Op != was.Op {
		k.changed = true
	}
	k.Code[at] = o
	k.learn(o)
	if flow.Leads(o) && o.To > at {
		k.lead(o)
	}
	k.here = flow.Falls(o)
}

func (k *knower) copied(t int) int {
	root := k.root(t)
	if root != t {
		k.changed = true
	}
	return root
}

func (k *knower) learn(o api.Op) {
	d := flow.Writes(o)
	if d == -1 {
		return
	}
	k.forget(d)
	switch o.Op {
	case api.OpConst:
		k.facts[d] = fact{of: isNumber, n: o.N}
	case api.OpCopy:
		k.facts[d] = fact{of: o.A}
	}
}

// lead keeps what is known on the way to To: of an OpIf, that its temp is 0, too.
func (k *knower) lead(o api.Op) {
	known := maps.Clone(k.facts)
	if o.Op == api.OpIf {
		known[o.A] = fact{of: isNumber}
	}
	if other, ok := k.waits[o.To]; ok {
		known.meet(other)
	}
	k.waits[o.To] = known
}
