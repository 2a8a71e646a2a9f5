package asm

import (
	"math"

	"cotter/api"
	"cotter/ins"
)

// piece is what an item is in the code: an instruction (0: none), its bytes, and where they begin.
type piece struct {
	op   int
	size int
	at   int
}

func (p piece) behind() int {
	return p.at + p.size
}

// jump is which item is one, and which its label is.
type jump struct {
	item  int
	label int
}

// layout is where everything comes to stand; there is a piece of each item.
type layout struct {
	names
	items  []api.Item
	pieces []piece
	jumps  []jump
	size   int // of all code
}

// lay finds the lengths of jumps to labels that are there.
func lay(l []api.Item, n names) *layout {
	y := &layout{names: n, items: l}
	for k, t := range l {
		y.add(k, t)
	}
	y.settle()
	return y
}

// add begins with all jumps short.
func (y *layout) add(k int, t api.Item) {
	op := t.Ins.Op
	if isJump(t) {
		op = shortOf(op)
		y.jumps = append(y.jumps, jump{item: k, label: y.names[t.Name]})
	}
	y.pieces = append(y.pieces, piece{op: op, size: ins.Size(op)})
}

// settle ends, as each round but the last one makes a jump long, and none short again.
func (y *layout) settle() {
round:
	for {
		y.place()
		for i, j := range y.jumps {
			if y.isTooFar(j) {
				y.lengthen(y.jumps[i:])
				continue round
			}
		}
		return
	}
}

func (y *layout) place() {
	y.size = 0
	for k := range y.pieces {
		y.pieces[k].at = y.size
		y.size += y.pieces[k].size
	}
}

// lengthen leaves all at their places, so that each jump is held against the same round's.
func (y *layout) lengthen(l []jump) {
	for _, j := range l {
		if y.isTooFar(j) {
			op := y.items[j.item].Ins.Op
			y.pieces[j.item].op, y.pieces[j.item].size = op, ins.Size(op)
		}
	}
}

// isTooFar is of short jumps alone: all others reach everything.
func (y *layout) isTooFar(j jump) bool {
	if y.pieces[j.item].op == y.items[j.item].Ins.Op {
		return false
	}
	far := y.distance(j.item, j.label)
	return far < math.MinInt8 || far > math.MaxInt8
}

// distance is how far it is from behind an item to another one.
func (y *layout) distance(from int, to int) int {
	return y.pieces[to].at - y.pieces[from].behind()
}
