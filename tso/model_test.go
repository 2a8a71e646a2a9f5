package tso_test

import (
	"math/rand"
	"slices"
	"testing"

	"cotter/api"
	"cotter/ins"
	"cotter/step"
	"cotter/tso"
)

// model is the machine in the document's words: memory is a map, and where a thread traps, all of it is put back.
type model struct {
	code   string
	data   int
	words  map[int64]int64
	cpus   []api.CPU
	waits  [][]api.Wait
	events []api.Event
}

func newModel(im api.Image) *model {
	m := &model{code: im.Code, data: len(im.Data), words: map[int64]int64{}}
	for k, n := range im.Data {
		m.words[x+8*int64(k)] = n
	}
	for _, s := range im.Syms {
		if s.Kind != api.SymThread {
			continue
		}
		base := stack + 65536*int64(len(m.cpus))
		for addr := base; addr < base+65536; addr += 8 {
			m.words[addr] = 0
		}
		m.cpus = append(m.cpus, api.CPU{PC: 4096 + int64(s.At), R: [api.Regs]int64{7: base + 65536}})
		m.waits = append(m.waits, nil)
	}
	return m
}

func (m *model) do(pick int) bool {
	if pick < 0 {
		pick = -1 - pick
	}
	q := pick / 2
	t := q % len(m.cpus)
	if pick%2 == 1 {
		return m.leave(t)
	}
	if m.cpus[t].State != api.Running {
		return false
	}
	m.step(t)
	switch c := m.cpus[t]; c.State {
	case api.Halted:
		m.events = append(m.events, api.Event{Thread: t, Kind: api.EvEnd})
	case api.Trapped:
		m.events = append(m.events, api.Event{Thread: t, Kind: api.EvFault, N: c.Trap})
	}
	return true
}

func (m *model) leave(t int) bool {
	if len(m.waits[t]) == 0 {
		return false
	}
	w := m.waits[t][0]
	m.words[w.Addr] = w.Value
	m.waits[t] = slices.Clone(m.waits[t][1:])
	return true
}

func (m *model) step(t int) {
	at := int(m.cpus[t].PC - 4096)
	i, behind, e := ins.Decode(m.code, at)
	if e != api.OK {
		m.cpus[t].State, m.cpus[t].Trap = api.Trapped, 3
		return
	}
	c, r := step.Start(m.cpus[t], i, behind-at)
	v, is := m.words[r.Addr]
	if r.Kind >= api.ReqLoad && r.Kind <= api.ReqAdd && !is {
		m.cpus[t].State, m.cpus[t].Trap = api.Trapped, 2
		return
	}
	switch r.Kind {
	case api.ReqLoad:
		for _, w := range m.waits[t] {
			if w.Addr == r.Addr {
				v = w.Value
			}
		}
	case api.ReqStore:
		if len(m.waits[t]) == 8 {
			m.leave(t)
		}
		m.waits[t] = append(m.waits[t], api.Wait{Addr: r.Addr, Value: r.Value})
	case api.ReqSwap, api.ReqAdd, api.ReqFence:
		for m.leave(t) {
		}
		if r.Kind == api.ReqFence {
			break
		}
		v = m.words[r.Addr]
		m.words[r.Addr] = r.Value
		if r.Kind == api.ReqAdd {
			m.words[r.Addr] += v
		}
	case api.ReqOut:
		m.events = append(m.events, api.Event{Thread: t, Kind: api.EvPrint, N: r.Value})
	}
	m.cpus[t] = step.Finish(c, r, v)
}

// same holds the machine against the model, the stacks only if all is asked for, since they are large.
func same(t *testing.T, m *tso.Machine, o *model, all bool) {
	t.Helper()
	for k, c := range o.cpus {
		if d, w := m.Thread(k); d != c || !slices.Equal(w, o.waits[k]) {
			t.Fatalf("P5.2: thread %d: %v, %v; want %v, %v", k, d, w, c, o.waits[k])
		}
	}
	if l := m.Events(); !slices.Equal(l, o.events) {
		t.Fatalf("P5.2: events %v; want %v", l, o.events)
	}
	for addr := x; addr < x+8*int64(o.data); addr += 8 {
		sameWord(t, m, addr, o.words[addr])
	}
	if !all {
		return
	}
	for addr, n := range o.words {
		sameWord(t, m, addr, n)
	}
}

func sameWord(t *testing.T, m *tso.Machine, addr int64, want int64) {
	t.Helper()
	if n, e := m.Word(addr); n != want || e != api.OK {
		t.Fatalf("P5.2: word %d: %d, error %d; want %d", addr, n, e, want)
	}
}

// randomCode touches few words, so that threads meet; now and then it goes astray.
func randomCode(r *rand.Rand, words int64) []api.Ins {
	l := []api.Ins{movi(1, x), movi(2, r.Int63n(9)), movi(3, x+8*r.Int63n(words))}
	for range 12 + r.Intn(20) {
		reg, at := 2+r.Intn(5), 8*r.Int63n(words)
		switch r.Intn(14) {
		case 0, 1, 2, 3:
			l = append(l, st(1, reg, at))
		case 4, 5, 6:
			l = append(l, ld(reg, 1, at))
		case 7:
			l = append(l, xchg(1, reg, at))
		case 8:
			l = append(l, xadd(1, reg, at))
		case 9:
			l = append(l, out(reg))
		case 10:
			l = append(l, movi(reg, r.Int63n(100)))
		case 11:
			l = append(l, st(7, reg, -8), ld(reg, 7, -8))
		case 12:
			l = append(l, api.Ins{Op: api.ADD + r.Intn(14), A: reg, B: 2 + r.Intn(5)})
		case 13:
			l = append(l, astray(r, reg))
		}
	}
	return append(l, of(api.HALT))
}

func astray(r *rand.Rand, reg int) api.Ins {
	switch r.Intn(8) {
	case 0:
		return ld(reg, reg, 0)
	case 1:
		return st(reg, 1, 0)
	case 2:
		return xchg(reg, reg, 4)
	case 3:
		return jump(api.JMPS, 0, int64(r.Intn(5)-1))
	case 4:
		return jump(api.JZS, reg, int64(r.Intn(20)-10))
	case 5:
		return jump(api.CALL, 0, 0)
	case 6:
		return of(api.FENCE)
	}
	return api.Ins{Op: api.TRAP, N: int64(r.Intn(128))}
}

func randomImage(r *rand.Rand) api.Image {
	words := 1 + r.Int63n(5)
	data := make([]int64, words)
	for k := range data {
		data[k] = r.Int63n(10)
	}
	var codes []string
	for range 1 + r.Intn(4) {
		codes = append(codes, code(randomCode(r, words)...))
	}
	return image(data, codes...)
}

func TestMachineIsTheModel(t *testing.T) {
	r := rand.New(rand.NewSource(5))
	for range 300 {
		im := randomImage(r)
		m, o := made(t, im), newModel(im)
		lazy := r.Intn(3) == 0 // so that buffers get full
		var picks []int
		for range 40 + r.Intn(400) {
			pick := int(r.Uint64())
			if lazy && r.Intn(8) > 0 {
				pick = 2 * r.Intn(4)
			}
			picks = append(picks, pick)
			if did := m.Do(pick); did != o.do(pick) {
				t.Fatalf("P5.2: pick %d: %v", pick, did)
			}
			same(t, m, o, false)
		}
		same(t, m, o, true)
		if l, e := tso.Run(im, picks); e != api.OK || !slices.Equal(l, o.events) {
			t.Fatalf("P5.3: Run: %v, error %d; want %v", l, e, o.events)
		}
	}
}

// P5.4: what a thread that runs alone shows hangs on no picks that let stores leave.
func TestThreadAloneSeesItsStores(t *testing.T) {
	r := rand.New(rand.NewSource(6))
	for range 200 {
		im := image(make([]int64, 4), code(randomCode(r, 4)...))
		want, _ := tso.Run(im, make([]int, 300))
		for range 10 {
			var picks []int
			for range 300 {
				for range r.Intn(4) {
					picks = append(picks, 1)
				}
				picks = append(picks, 0)
			}
			if l, e := tso.Run(im, picks); e != api.OK || !slices.Equal(l, want) {
				t.Fatalf("P5.4: %v, error %d; want %v", l, e, want)
			}
		}
	}
}

// P5.4: if stores leave at once, all threads see each store at once: as on a machine where a store stands in memory as soon as it is made.
func TestStoresThatLeaveAtOnce(t *testing.T) {
	r := rand.New(rand.NewSource(7))
	for range 100 {
		im := randomImage(r)
		m, o := made(t, im), newModel(im)
		for range 200 {
			k := r.Intn(len(o.cpus))
			m.Do(2 * k)
			m.Do(2*k + 1)
			o.do(2 * k)
			for _, w := range o.waits[k] {
				o.words[w.Addr] = w.Value
			}
			o.waits[k] = nil
			same(t, m, o, false)
		}
	}
}

// R6: asked again, it is the same; and machines of one image have nothing in common.
func TestSamePicksSameAnswers(t *testing.T) {
	r := rand.New(rand.NewSource(8))
	for range 50 {
		im := randomImage(r)
		a, b := made(t, im), made(t, im)
		var picks []int
		for range 200 {
			picks = append(picks, r.Intn(16))
		}
		for _, pick := range picks {
			a.Do(pick)
		}
		for _, pick := range picks {
			b.Do(pick)
		}
		for k := range a.Threads() {
			c, w := a.Thread(k)
			again, waits := a.Thread(k)
			other, others := b.Thread(k)
			if c != other || c != again || !slices.Equal(w, others) || !slices.Equal(w, waits) {
				t.Fatalf("P5.4, R6: thread %d: %v, %v; %v, %v", k, c, w, other, others)
			}
		}
		if !slices.Equal(a.Events(), b.Events()) || !slices.Equal(a.Events(), a.Events()) {
			t.Fatalf("P5.4, R6: %v; %v", a.Events(), b.Events())
		}
	}
}

func TestWhatIsHandedInIsNotKept(t *testing.T) {
	im := image([]int64{1, 2}, code(movi(1, x), st(1, 7, 0), of(api.FENCE), ld(2, 1, 8), out(2), of(api.HALT)), code(of(api.HALT)))
	data, syms := slices.Clone(im.Data), slices.Clone(im.Syms)
	m := made(t, im)
	steps(t, m, 0, 3)
	if !slices.Equal(im.Data, data) || !slices.Equal(im.Syms, syms) {
		t.Errorf("R5: what was handed in is changed: %v", im)
	}
	wantWord(t, m, x, stack+65536)
	im.Data[1] = 99
	im.Syms[0], im.Syms[1] = api.Sym{}, api.Sym{}
	if m.Threads() != 2 {
		t.Errorf("R5: %d threads", m.Threads())
	}
	steps(t, m, 0, 3)
	wantEvents(t, m, printed(0, 2), ended(0))
	picks := []int{-1, 0, 2, 4, -7}
	tso.Run(image(nil, code(of(api.HALT))), picks)
	if !slices.Equal(picks, []int{-1, 0, 2, 4, -7}) {
		t.Errorf("R5: picks are changed: %v", picks)
	}
}

func TestWhatIsAnsweredIsNew(t *testing.T) {
	m := made(t, image(make([]int64, 8), code(movi(1, x), st(1, 1, 0), out(1), st(1, 1, 8), out(7), st(1, 7, 16), of(api.FENCE))))
	steps(t, m, 0, 3)
	_, w := m.Thread(0)
	l := m.Events()
	w[0], l[0] = api.Wait{}, api.Event{}
	_ = append(w, api.Wait{Addr: 1, Value: 1}, api.Wait{Addr: 2, Value: 2})
	_ = append(l, api.Event{Thread: 3}, api.Event{Thread: 3})
	w, l = w[:cap(w)], l[:cap(l)]
	wantWaits(t, m, 0, api.Wait{Addr: x, Value: x})
	wantEvents(t, m, printed(0, x))
	spareWaits, spareEvents := slices.Clone(w), slices.Clone(l)
	steps(t, m, 0, 3)
	if !slices.Equal(w, spareWaits) || !slices.Equal(l, spareEvents) {
		t.Errorf("R5: what was answered is changed: %v, %v", w, l)
	}
	wantWaits(t, m, 0, api.Wait{Addr: x, Value: x}, api.Wait{Addr: y, Value: x}, api.Wait{Addr: x + 16, Value: stack + 65536})
	_, w = m.Thread(0)
	steps(t, m, 0, 1)
	if !slices.Equal(w, []api.Wait{{Addr: x, Value: x}, {Addr: y, Value: x}, {Addr: x + 16, Value: stack + 65536}}) {
		t.Errorf("R5: what was answered is changed: %v", w)
	}
	wantWord(t, m, x, x)
	wantEvents(t, m, printed(0, x), printed(0, stack+65536))
}
