package opt

import (
	"cotter/api"
	"cotter/flow"
)

// prune takes out what nobody reads.
func (p *plan) prune() {
	ahead := flow.Lives(p.Code, isNeeded)
	p.drop(ahead)
	p.join(ahead)
}

// isNeeded counts no reader that nobody reads itself: so a temp that is read for nothing but its own next number goes, too.
func isNeeded(o api.Op, behind flow.Set) bool {
	return !isPure(o) || behind.Has(o.D)
}

// isPure is of what does nothing but write its temp, whatever the others are: it has no fault either.
func isPure(o api.Op) bool {
	switch o.Op {
	case api.OpConst, api.OpCopy:
		return true
	case api.OpBin:
		return o.What != api.DIV && o.What != api.REM
	case api.OpLoad:
		return o.A == -1
	}
	return false
}

// drop goes from the end to the beginning, so that what nothing reads but what was taken out goes at once, and so does what leads, over such alone, to what comes behind it anyway. Ahead is brought up to it; where an operation leads back, it is taken as it was: never too little.
func (p *plan) drop(ahead []flow.Set) {
	goals := make([]int, len(p.Code))
	for at := len(p.Code) - 1; at >= 0; at-- {
		behind := flow.Behind(p.Code, ahead, at)
		p.dropOne(at, behind, goals)
		goals[at] = p.goal(at, goals)
		ahead[at] = flow.Ahead(p.Code[at], behind, isNeeded)
	}
}

func (p *plan) dropOne(at int, behind flow.Set, goals []int) {
	o := p.Code[at]
	d := flow.Writes(o)
	switch {
	case flow.Leads(o) && o.To > at && goals[o.To] == goals[at+1]:
		p.remove(at)
	case d == -1 || behind.Has(d):
	case isPure(o):
		p.remove(at)
	case isAsked(o):
		o.D = -1
		p.set(at, o)
	}
}

// goal is the first place from one on that does more than to lead on, as far as those behind it are known.
func (p *plan) goal(at int, goals []int) int {
	if next := p.passed(at); p.isPassed(at) && next > at {
		return goals[next]
	}
	return at
}

// isAsked is of what may answer nowhere.
func isAsked(o api.Op) bool {
	return o.Op == api.OpCall || o.Op == api.OpGet || o.Op == api.OpPut
}

// join lets an operation write at once what else is copied right behind it, if nobody reads the copied one any more. Going on from the beginning, it never asks for what is live behind an operation that it changed.
func (p *plan) join(ahead []flow.Set) {
	led := p.led()
	for at := range len(p.Code) - 1 {
		o, next := p.Code[at], p.Code[at+1]
		if next.Op != api.OpCopy || flow.Writes(o) != next.A || led[at+1] {
			continue
		}
		if behind := flow.Behind(p.Code, ahead, at+1); behind.Has(next.A) {
			continue
		}
		o.D = next.D
		p.set(at, o)
		p.remove(at + 1)
	}
}

// led are the places to which an operation leads.
func (p *plan) led() []bool {
	led := make([]bool, len(p.Code))
	for _, o := range p.Code {
		if flow.Leads(o) {
			led[o.To] = true
		}
	}
	return led
}
