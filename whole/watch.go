package whole

import (
	"strings"

	"cotter/api"
	"cotter/ins"
	"cotter/tso"
)

// maxActs is how many a history may have.
const maxActs = 60

// door is a function of a lock or a queue: what it does, and of which one.
type door struct {
	do   int
	name string
}

// spot is where a thread is, and where its stack ends: it has come back from a call when it is where it was to come back to.
type spot struct {
	at    int64
	stack int64
}

// call is one of a lock's or queue's function that has not come back: the number of its act, and where it comes back to.
type call struct {
	act  int
	back spot
}

// watcher is a machine, and what its threads have shown. A pick has two times, twice its number and 1 more: an act's Call is the first one of the pick by which it began, its Back the second one of that by which it came back.
type watcher struct {
	*tso.Machine
	code  string
	doors map[int64]door // by their addresses
	open  map[int]call   // by threads
	acts  []api.Act
}

// watch does picks, till all are done; ErrLarge, if more acts are shown than a history may have.
func watch(im api.Image, picks []int) (*watcher, api.Errno) {
	m, e := tso.New(im)
	if e != api.OK {
		return nil, e
	}
	w := &watcher{Machine: m, code: im.Code, doors: doorsOf(im.Syms), open: map[int]call{}}
	for now, pick := range picks {
		w.pick(pick, now)
		if len(w.acts) > maxActs {
			return nil, api.ErrLarge
		}
	}
	return w, api.OK
}

// doorsOf finds functions by their names: no other function's has a dot.
func doorsOf(syms []api.Sym) map[int64]door {
	doors := map[int64]door{}
	for _, s := range syms {
		name, function, ok := strings.Cut(s.Name, ".")
		if do := doOf(function); ok && s.Kind == api.SymCode && do != 0 {
			doors[api.CodeBase+int64(s.At)] = door{do, name}
		}
	}
	return doors
}

func doOf(function string) int {
	switch function {
	case "acq":
		return api.DoAcquire
	case "rel":
		return api.DoRelease
	case "put":
		return api.DoPut
	case "get":
		return api.DoGet
	}
	return 0
}

// pick does one, and writes down what it shows.
func (w *watcher) pick(pick int, now int) {
	t, steps := w.whose(pick)
	was, _ := w.Thread(t)
	if !w.Do(pick) || !steps {
		return
	}
	is, _ := w.Thread(t)
	i, behind, _ := ins.Decode(w.code, int(was.PC-api.CodeBase))
	to, calls := w.doors[is.PC]
	switch {
	case i.Op == api.OUT || is.State != api.Running:
		w.show(t, now)
	case i.Op == api.CALL && calls:
		w.open[t] = call{act: len(w.acts), back: spot{api.CodeBase + int64(behind), was.R[api.Stack]}}
		w.begin(t, to, was.R[1], now)
	default:
		w.comeBack(t, is, now)
	}
}

// whose is a pick's thread, and whether that does a step.
func (w *watcher) whose(pick int) (int, bool) {
	if pick < 0 {
		pick = -1 - pick
	}
	return pick / 2 % w.Threads(), pick%2 == 0
}

// show writes an event down as an act that is done at once: so events keep their order among all acts.
func (w *watcher) show(t int, now int) {
	events := w.Events()
	w.acts = append(w.acts, api.Act{Thread: t, Do: api.DoPrint, Arg: events[len(events)-1].N, Call: 2 * now, Back: 2*now + 1})
}

func (w *watcher) begin(t int, to door, arg int64, now int) {
	act := api.Act{Thread: t, Do: to.do, Name: to.name, Call: 2 * now, Back: -1}
	if to.do == api.DoPut { // the others have none
		act.Arg = arg
	}
	w.acts = append(w.acts, act)
}

func (w *watcher) comeBack(t int, c api.CPU, now int) {
	one, within := w.open[t]
	if !within || one.back != (spot{c.PC, c.R[api.Stack]}) {
		return
	}
	delete(w.open, t)
	act := &w.acts[one.act]
	act.Back = 2*now + 1
	if act.Do == api.DoPut || act.Do == api.DoGet {
		act.Answer = c.R[0]
	}
}
