package alloc

import (
	"iter"

	"cotter/api"
	"cotter/flow"
)

// life is a function, and the temps that are live ahead of each of its operations.
type life struct {
	api.Func
	ahead []flow.Set
}

// newLife is of a function that may be by itself. All that is read counts, even if what is made of it is read by nobody: it is worked out all the same.
func newLife(f api.Func) *life {
	all := func(api.Op, flow.Set) bool { return true }
	return &life{Func: f, ahead: flow.Lives(f.Code, all)}
}

// first are the temps that are live at the beginning.
func (l *life) first() flow.Set {
	return l.ahead[0]
}

func (l *life) behind(at int) flow.Set {
	return flow.Behind(l.Code, l.ahead, at)
}

// kept are the temps that must have a slot, as they are live while another function has the registers.
func (l *life) kept() flow.Set {
	var kept flow.Set
	for at, o := range l.Code {
		if !leaves(o) {
			continue
		}
		behind := l.behind(at)
		if d := flow.Writes(o); d != -1 {
			behind.Remove(d)
		}
		kept.Join(behind)
	}
	return kept
}

// leaves is of operations that another function does.
func leaves(o api.Op) bool {
	switch o.Op {
	case api.OpCall, api.OpGet, api.OpPut, api.OpAcq, api.OpRel:
		return true
	}
	return false
}

// pair is two temps, the order of which counts for nothing but where pairs are compared.
type pair struct {
	one   int
	other int
}

// apart goes along the pairs of temps whose places must be unlike; it may come to one more than once.
func (l *life) apart() iter.Seq[pair] {
	return func(yield func(pair) bool) {
		if !l.apartFirst(yield) {
			return
		}
		for at := range l.Code {
			if !l.apartBehind(at, yield) {
				return
			}
		}
	}
}

// apartFirst and apartBehind tell whether yield wants to go on.
func (l *life) apartFirst(yield func(pair) bool) bool {
	first := l.first()
	for t := range l.Params {
		first.Add(t)
	}
	for one := range first.All() {
		for other := range first.All() {
			if one < other && !yield(pair{one, other}) {
				return false
			}
		}
	}
	return true
}

// apartBehind leaves out what is copied: it and its copy are the same.
func (l *life) apartBehind(at int, yield func(pair) bool) bool {
	o := l.Code[at]
	d := flow.Writes(o)
	if d == -1 {
		return true
	}
	same := pair{d, d}
	if o.Op == api.OpCopy {
		same.other = o.A
	}
	for other := range l.behind(at).All() {
		p := pair{d, other}
		if other != d && p != same && !yield(p) {
			return false
		}
	}
	return true
}
