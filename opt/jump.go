package opt

import (
	"cotter/api"
	"cotter/flow"
)

// thread lets each jump go at once to where it comes over others, or do what is done there, if that is the end.
func (p *plan) thread() {
	goals := p.goals()
	for at, o := range p.Code {
		if !flow.Leads(o) {
			continue
		}
		if goal := p.beyond(o, goals); goal != o.To {
			o.To = goal
			p.set(at, o)
		}
		end := p.Code[o.To]
		if o.Op == api.OpJump && !flow.Falls(end) && !flow.Leads(end) {
			p.set(at, end)
		}
	}
}

// beyond is where an operation leads to in the end: from one OpIf over another one of the same temp, since that is 0 there still.
func (p *plan) beyond(o api.Op, goals []int) int {
	goal := goals[o.To]
	if next := p.Code[goal]; o.Op == api.OpIf && next.Op == api.OpIf && next.A == o.A {
		return goals[next.To]
	}
	return goal
}

// What goals has of a place whose goal is not found: nothing yet, or that the way that is being gone came by.
const (
	unknown = -1
	onWay   = -2
)

// goals are, of each place, the first one behind it, or itself, that does more than jump. Of a way that goes round for ever it is one of the places on it.
func (p *plan) goals() []int {
	goals := make([]int, len(p.Code))
	for at := range goals {
		goals[at] = unknown
	}
	for at := range goals {
		p.follow(at, goals)
	}
	return goals
}

func (p *plan) follow(at int, goals []int) {
	var way []int
	for goals[at] == unknown && p.isPassed(at) {
		goals[at] = onWay
		way = append(way, at)
		at = p.passed(at)
	}
	if goals[at] < 0 {
		goals[at] = at
	}
	for _, i := range way {
		goals[i] = goals[at]
	}
}

func (p *plan) isPassed(at int) bool {
	op := p.Code[at].Op
	return op == 0 || op == api.OpJump
}

// passed is the place behind one that is passed.
func (p *plan) passed(at int) int {
	if o := p.Code[at]; flow.Leads(o) {
		return o.To
	}
	return at + 1
}

// reach takes out what is never come to. What is taken out here may be the last operation: so the others must move up right behind this.
func (p *plan) reach() {
	come := make([]bool, len(p.Code))
	come[0] = true
	work := []int{0}
	for len(work) > 0 {
		at := work[len(work)-1]
		work = work[:len(work)-1]
		for i := range flow.Next(p.Code, at) {
			if !come[i] {
				come[i] = true
				work = append(work, i)
			}
		}
	}
	for at, comes := range come {
		if !comes {
			p.remove(at)
		}
	}
}

// sweep lets what stays move up, without such as lead to what comes behind them anyway.
func (p *plan) sweep() {
	stays := p.staying()
	var code []api.Op
	moved := make([]int, len(p.Code))
	for at, o := range p.Code {
		moved[at] = len(code)
		if stays[at] == at {
			code = append(code, o)
		}
	}
	for at, o := range code {
		if flow.Leads(o) {
			code[at].To = moved[o.To]
		}
	}
	p.Code = code
}

// staying are, of each place and of the one behind all, the first one from it on that stays.
func (p *plan) staying() []int {
	stays := make([]int, len(p.Code)+1)
	stays[len(p.Code)] = len(p.Code)
	for at := len(p.Code) - 1; at >= 0; at-- {
		o := p.Code[at]
		isIdle := flow.Leads(o) && o.To > at && stays[o.To] == stays[at+1]
		stays[at] = at
		if o.Op == 0 || isIdle {
			stays[at] = stays[at+1]
		}
		if isIdle {
			p.changed = true
		}
	}
	return stays
}
