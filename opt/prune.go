package opt

import (
	"cotter/api"
	"cotter/flow"
)

// prune takes out what nobody reads.
func (p *plan) prune() {
	ahead := flow.Lives(p.Code, isNeeded)
	p.drop(ahead)
	p.join(ahead)
}

// isNeeded counts no reader that nobody reads itself: so a temp that is read for nothing but its own next number goes, too.
func isNeeded(o api.Op, behind flow.Set) bool {
	return !isPure(o) || behind.Has(o.D)
}

// isPure is of what does nothing but write its temp, whatever the others are: it has no fault either.
func isPure(o api.Op) bool {
	switch o.Op {
	case api.OpConst, api.OpCopy:
		return true
	case api.OpBin:
		return o.What != api.DIV && o.What != api.REM
	case api.OpLoad:
		return o.A == -1
	}
	return false
}

func (p *plan) drop(ahead []flow.Set) {
	for at, o := range p.Code {
		d := flow.Writes(o)
		if d == -1 {
			continue
		}
		behind := flow.Behind(p.Code, ahead, at)
		switch {
		case behind.Has(d):
		case isPure(o):
			p.remove(at)
		case isAsked(o):
			o.D = -1
			p.set(at, o)
		}
	}
}

// isAsked is of what may answer nowhere.
func isAsked(o api.Op) bool {
	return o.Op == api.OpCall || o.Op == api.OpGet || o.Op == api.OpPut
}

// join lets an operation write at once what else is copied right behind it, if nobody reads the copied one any more. Going on from the beginning, it never asks for what is live behind an operation that it changed.
func (p *plan) join(ahead []flow.Set) {
	led := p.led()
	for at := range len(p.Code) - 1 {
		o, next := p.Code[at], p.Code[at+1]
		if next.Op != api.OpCopy || flow.Writes(o) != next.A || led[at+1] {
			continue
		}
		if behind := flow.Behind(p.Code, ahead, at+1); behind.Has(next.A) {
			continue
		}
		o.D = next.D
		p.set(at, o)
		p.remove(at + 1)
	}
}

// led are the places to which an operation leads.
func (p *plan) led() []bool {
	led := make([]bool, len(p.Code))
	for _, o := range p.Code {
		if flow.Leads(o) {
			led[o.To] = true
		}
	}
	return led
}
