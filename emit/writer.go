package emit

import (
	"strconv"

	"cotter/alloc"
	"cotter/api"
	"cotter/flow"
)

// The registers that are no temp's place. What a function answers stands in the first one, too; a queue's argument goes by a register that is a temp's place else.
const (
	spare    = 0
	address  = 5
	helper   = 6
	answer   = spare
	argument = 1
)

const (
	firstSlot  = 8
	wordBytes  = 8
	faultIndex = 2
)

// Ahead of a CALL argument i is stored into the word that is so far below the stack's register; the CALL itself stores a word, too.
const belowCaller = 2 * wordBytes

// writer writes a function: names is what the module declares; trapped, whether some operation leads to the function's trap.
// A function's frame are its slots, from the stack's register on, and above them its arguments, the first one uppermost: they stand where the caller has stored them.
type writer struct {
	api.Func
	api.Alloc
	names   flow.Names
	items   []api.Item
	trapped bool
}

func (w *writer) function() []api.Item {
	w.begin()
	led := w.led()
	for at, o := range w.Code {
		if led[at] {
			w.label(w.at(at))
		}
		w.operation(o)
	}
	if w.trapped {
		w.label(w.trap())
		w.add(api.Ins{Op: api.TRAP, N: faultIndex})
	}
	return w.items
}

// led are the operations that need labels. There may be so many items only.
func (w *writer) led() []bool {
	led := make([]bool, len(w.Code))
	for _, o := range w.Code {
		if flow.Leads(o) {
			led[o.To] = true
		}
	}
	return led
}

// at and trap are labels: with a dot, as no name of a module has one, and behind the name of a function, as no lock and no queue has that.
func (w *writer) at(operation int) string {
	return w.Name + "." + strconv.Itoa(operation)
}

func (w *writer) trap() string {
	return w.Name + ".trap"
}

// begin makes the frame, and gives the temps whose first values are read theirs: arguments, or else 0.
func (w *writer) begin() {
	kind := api.ItemGlobal
	if w.names[w.Name].Kind == api.DeclThread {
		kind = api.ItemThread
	}
	w.items = append(w.items, api.Item{Kind: kind, Name: w.Name})
	w.label(w.Name)
	w.move(api.SUB)
	_, first, _ := alloc.Live(w.Func)
	for _, t := range first {
		d := w.target(t)
		if t < w.Params {
			w.add(api.Ins{Op: api.LD, A: d, B: api.Stack, N: w.size() - int64(wordBytes*(t+1))})
		} else {
			w.number(d, 0)
		}
		w.keep(t, d)
	}
}

// size is the frame's, in bytes.
func (w *writer) size() int64 {
	return int64(wordBytes * (w.Slots + w.Params))
}

// move takes the stack's register over the frame, by SUB or ADD.
func (w *writer) move(op int) {
	if w.size() == 0 {
		return
	}
	w.number(helper, w.size())
	w.add(api.Ins{Op: op, A: api.Stack, B: helper})
}

func (w *writer) label(name string) {
	w.items = append(w.items, api.Item{Kind: api.ItemLabel, Name: name})
}

func (w *writer) add(i api.Ins) {
	w.name(i, "")
}

// name adds an instruction that names something.
func (w *writer) name(i api.Ins, name string) {
	w.items = append(w.items, api.Item{Kind: api.ItemIns, Ins: i, Name: name})
}

// number puts a number into a register. For the two that are needed most there are instructions of two bytes in the place of ten.
func (w *writer) number(register int, n int64) {
	switch n {
	case 0:
		w.add(api.Ins{Op: api.XOR, A: register, B: register})
	case 1:
		w.add(api.Ins{Op: api.EQ, A: register, B: register})
	default:
		w.add(api.Ins{Op: api.MOVI, A: register, N: n})
	}
}

func isSlot(place int) bool {
	return place >= firstSlot
}

func offset(place int) int64 {
	return int64(wordBytes * (place - firstSlot))
}

// target is the register in which a temp's new value is best made; keep then brings it from a register to its place.
func (w *writer) target(temp int) int {
	if place := w.Where[temp]; !isSlot(place) {
		return place
	}
	return spare
}

func (w *writer) keep(temp int, register int) {
	place := w.Where[temp]
	switch {
	case isSlot(place):
		w.add(api.Ins{Op: api.ST, A: api.Stack, B: register, N: offset(place)})
	case place != register:
		w.add(api.Ins{Op: api.MOV, A: place, B: register})
	}
}

// read answers the register in which a temp's value is: its own, or else another one, into which it is brought.
func (w *writer) read(temp int, other int) int {
	place := w.Where[temp]
	if !isSlot(place) {
		return place
	}
	w.add(api.Ins{Op: api.LD, A: other, B: api.Stack, N: offset(place)})
	return other
}

// fetch brings a temp's value into just that register.
func (w *writer) fetch(register int, temp int) {
	if from := w.read(temp, register); from != register {
		w.add(api.Ins{Op: api.MOV, A: register, B: from})
	}
}
