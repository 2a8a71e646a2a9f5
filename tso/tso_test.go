package tso_test

import (
	"math"
	"slices"
	"strings"
	"testing"

	"cotter/api"
	"cotter/ins"
	"cotter/tso"
)

// The calls have the types that the chapter lists.
var (
	_ func(api.Image) (*tso.Machine, api.Errno)       = tso.New
	_ func(*tso.Machine, int) bool                    = (*tso.Machine).Do
	_ func(*tso.Machine) int                          = (*tso.Machine).Threads
	_ func(*tso.Machine, int) (api.CPU, []api.Wait)   = (*tso.Machine).Thread
	_ func(*tso.Machine, int64) (int64, api.Errno)    = (*tso.Machine).Word
	_ func(*tso.Machine) []api.Event                  = (*tso.Machine).Events
	_ func(api.Image, []int) ([]api.Event, api.Errno) = tso.Run
)

const (
	least    = math.MinInt64
	greatest = math.MaxInt64
	x        = int64(api.DataBase)
	y        = x + 8
	stack    = int64(api.StackBase)
)

// The instructions, by short names.
func movi(a int, n int64) api.Ins         { return api.Ins{Op: api.MOVI, A: a, N: n} }
func ld(a int, b int, n int64) api.Ins    { return api.Ins{Op: api.LD, A: a, B: b, N: n} }
func st(a int, b int, n int64) api.Ins    { return api.Ins{Op: api.ST, A: a, B: b, N: n} }
func xchg(a int, b int, n int64) api.Ins  { return api.Ins{Op: api.XCHG, A: a, B: b, N: n} }
func xadd(a int, b int, n int64) api.Ins  { return api.Ins{Op: api.XADD, A: a, B: b, N: n} }
func out(a int) api.Ins                   { return api.Ins{Op: api.OUT, A: a} }
func of(op int) api.Ins                   { return api.Ins{Op: op} }
func jump(op int, a int, n int64) api.Ins { return api.Ins{Op: op, A: a, N: n} }

// code is the instructions' bytes.
func code(l ...api.Ins) string {
	var b strings.Builder
	for _, i := range l {
		s, e := ins.Encode(i)
		if e != api.OK {
			panic("no such instruction")
		}
		b.WriteString(s)
	}
	return b.String()
}

// image has a thread for each code, over some words.
func image(data []int64, codes ...string) api.Image {
	im := api.Image{Data: data}
	for _, c := range codes {
		im.Syms = append(im.Syms, api.Sym{Name: "t", Kind: api.SymThread, At: len(im.Code)})
		im.Code += c
	}
	return im
}

func threadsAt(l ...int) []api.Sym {
	var syms []api.Sym
	for _, at := range l {
		syms = append(syms, api.Sym{Name: "t", Kind: api.SymThread, At: at})
	}
	return syms
}

// made is a machine that must be.
func made(t *testing.T, im api.Image) *tso.Machine {
	t.Helper()
	m, e := tso.New(im)
	if m == nil || e != api.OK {
		t.Fatalf("P5.1: New: error %d", e)
	}
	return m
}

// do does picks, all of which must do something.
func do(t *testing.T, m *tso.Machine, picks ...int) {
	t.Helper()
	for k, pick := range picks {
		if !m.Do(pick) {
			t.Fatalf("P5.2: pick %d (%d) did nothing", k, pick)
		}
	}
}

// steps lets one thread do so many steps.
func steps(t *testing.T, m *tso.Machine, thread int, n int) {
	t.Helper()
	for range n {
		do(t, m, 2*thread)
	}
}

func wantWord(t *testing.T, m *tso.Machine, addr int64, want int64) {
	t.Helper()
	if n, e := m.Word(addr); n != want || e != api.OK {
		t.Errorf("P5.3: Word of %d: %d, error %d; want %d", addr, n, e, want)
	}
}

func wantWaits(t *testing.T, m *tso.Machine, thread int, want ...api.Wait) {
	t.Helper()
	if _, w := m.Thread(thread); !slices.Equal(w, want) {
		t.Errorf("P5.3: thread %d: stores that wait: %v; want %v", thread, w, want)
	}
}

func wantCPU(t *testing.T, m *tso.Machine, thread int, want api.CPU) {
	t.Helper()
	if c, _ := m.Thread(thread); c != want {
		t.Errorf("P5.2: thread %d: %v; want %v", thread, c, want)
	}
}

func wantEvents(t *testing.T, m *tso.Machine, want ...api.Event) {
	t.Helper()
	if l := m.Events(); !slices.Equal(l, want) {
		t.Errorf("P5.3: events: %v; want %v", l, want)
	}
}

func printed(thread int, n int64) api.Event {
	return api.Event{Thread: thread, Kind: api.EvPrint, N: n}
}

func ended(thread int) api.Event {
	return api.Event{Thread: thread, Kind: api.EvEnd}
}

func fault(thread int, n int64) api.Event {
	return api.Event{Thread: thread, Kind: api.EvFault, N: n}
}

func TestImagesThatMayBeRun(t *testing.T) {
	for _, c := range []struct {
		name    string
		im      api.Image
		threads int
	}{
		{"one thread", api.Image{Code: " ", Syms: threadsAt(0)}, 1},
		{"four threads", api.Image{Code: "    ", Syms: threadsAt(3, 0, 1, 2)}, 4},
		{"four threads at one place", api.Image{Code: "  ", Syms: threadsAt(1, 1, 1, 1)}, 4},
		{"all code", api.Image{Code: strings.Repeat("a", 65536), Syms: threadsAt(0, 65535)}, 2},
		{"all data", api.Image{Code: " ", Data: make([]int64, 4096), Syms: threadsAt(0)}, 1},
		{"code that is no instruction", api.Image{Code: "\xff\x00", Syms: threadsAt(1)}, 1},
		{"other symbols, whatever they say", api.Image{Code: " ", Syms: []api.Sym{
			{Kind: api.SymCode, At: -1}, {Kind: api.SymData, At: greatest}, {Name: strings.Repeat("n", 99), Kind: 4, At: 1}, {},
			{Kind: api.SymThread}, {Kind: -3, At: 7}, {Kind: 256 + api.SymThread, At: least}}}, 1},
		{"1001 symbols", api.Image{Code: " ", Syms: append(make([]api.Sym, 1000), threadsAt(0)...)}, 1},
	} {
		m, e := tso.New(c.im)
		if m == nil || e != api.OK {
			t.Errorf("P5.1: %s: error %d", c.name, e)
		} else if n := m.Threads(); n != c.threads {
			t.Errorf("P5.3: %s: %d threads", c.name, n)
		}
		if l, e := tso.Run(c.im, nil); len(l) != 0 || e != api.OK {
			t.Errorf("P5.3: %s: Run: %v, error %d", c.name, l, e)
		}
	}
}

func TestImagesThatMayNotBeRun(t *testing.T) {
	good := threadsAt(0)
	for _, c := range []struct {
		name string
		im   api.Image
	}{
		{"nothing", api.Image{}},
		{"no threads", api.Image{Code: " ", Data: []int64{1}}},
		{"no threads among the symbols", api.Image{Code: " ", Syms: []api.Sym{{Kind: api.SymCode}, {Kind: api.SymData}, {Kind: 0}, {Kind: 4}}}},
		{"five threads", api.Image{Code: " ", Syms: threadsAt(0, 0, 0, 0, 0)}},
		{"many threads", api.Image{Code: " ", Syms: threadsAt(make([]int, 1000)...)}},
		{"no code", api.Image{Syms: good}},
		{"too much code", api.Image{Code: strings.Repeat(" ", 65537), Syms: good}},
		{"too much data", api.Image{Code: " ", Data: make([]int64, 4097), Syms: good}},
		{"At -1", api.Image{Code: " ", Syms: threadsAt(-1)}},
		{"At behind the code", api.Image{Code: " ", Syms: threadsAt(1)}},
		{"At behind all code", api.Image{Code: strings.Repeat(" ", 65536), Syms: threadsAt(65536)}},
		{"the least At", api.Image{Code: " ", Syms: threadsAt(math.MinInt)}},
		{"the greatest At", api.Image{Code: " ", Syms: threadsAt(math.MaxInt)}},
		{"the last At", api.Image{Code: "  ", Syms: threadsAt(0, 1, 1, 2)}},
		{"the first At", api.Image{Code: "  ", Syms: threadsAt(-1, 1, 1, 0)}},
	} {
		if m, e := tso.New(c.im); m != nil || e != api.ErrArg {
			t.Errorf("P5.1: %s: %v, error %d", c.name, m != nil, e)
		}
		if l, e := tso.Run(c.im, []int{0, 1, 2}); len(l) != 0 || e != api.ErrArg {
			t.Errorf("P5.3, R3: %s: Run: %v, error %d", c.name, l, e)
		}
	}
}

// R1: what New answers beside an error is no machine, and yet no call on it panics.
func TestNoMachine(t *testing.T) {
	m, _ := tso.New(api.Image{})
	for _, pick := range []int{0, 1, -1, -2, math.MinInt, math.MaxInt} {
		if m.Do(pick) {
			t.Errorf("R1: pick %d did something", pick)
		}
	}
	if c, w := m.Thread(0); m.Threads() != 0 || c != (api.CPU{}) || len(w) != 0 || len(m.Events()) != 0 {
		t.Error("R1: no machine has something")
	}
	if n, e := m.Word(x); n != 0 || e != api.ErrFault {
		t.Errorf("R1: %d, error %d", n, e)
	}
}

func TestHowThreadsBegin(t *testing.T) {
	im := api.Image{Code: strings.Repeat(" ", 10), Data: []int64{7, least, greatest}, Syms: []api.Sym{
		{Name: "f", Kind: api.SymCode, At: 5}, {Name: "c", Kind: api.SymThread, At: 9}, {Name: "x", Kind: api.SymData}, {Name: "a", Kind: api.SymThread}, {Name: "b", Kind: api.SymThread, At: 4}}}
	m := made(t, im)
	if m.Threads() != 3 {
		t.Fatalf("P5.3: %d threads", m.Threads())
	}
	for thread, at := range []int64{9, 0, 4} {
		wantCPU(t, m, thread, api.CPU{PC: 4096 + at, R: [api.Regs]int64{7: stack + int64(thread+1)*65536}})
		wantWaits(t, m, thread)
	}
	wantEvents(t, m)
	for k, n := range im.Data {
		wantWord(t, m, x+8*int64(k), n)
	}
	for addr := stack; addr < stack+3*65536; addr += 8 {
		wantWord(t, m, addr, 0)
	}
	for _, thread := range []int{math.MinInt, -1, 3, 4, 1 << 32, math.MaxInt} {
		if c, w := m.Thread(thread); c != (api.CPU{}) || len(w) != 0 {
			t.Errorf("P5.3: thread %d: %v, %v", thread, c, w)
		}
	}
}

// notWords are addresses that are no words of memory, with so many words of data and so many threads.
func notWords(words int64, threads int64) []int64 {
	return []int64{
		least, least + 1, -8, -1, 0, 4, 8, 4096, 4104, x - 8, x - 1, x + 1, x + 4, x + 7, x + 8*words, x + 8*words + 8, x + 1<<32,
		stack - 8, stack - 4, stack + 1, stack + 65536 - 1, stack + threads*65536, stack + threads*65536 + 8, 1 << 40, greatest - 7, greatest,
	}
}

func TestWord(t *testing.T) {
	for threads := 1; threads <= 4; threads++ {
		m := made(t, api.Image{Code: " ", Data: []int64{3, 4}, Syms: threadsAt(make([]int, threads)...)})
		for _, addr := range notWords(2, int64(threads)) {
			if n, e := m.Word(addr); n != 0 || e != api.ErrFault {
				t.Errorf("P5.3: Word of %d: %d, error %d", addr, n, e)
			}
		}
		wantWord(t, m, x, 3)
		wantWord(t, m, y, 4)
		wantWord(t, m, stack, 0)
		wantWord(t, m, stack+int64(threads)*65536-8, 0)
	}
	m := made(t, api.Image{Code: " ", Syms: threadsAt(0)})
	if n, e := m.Word(x); n != 0 || e != api.ErrFault {
		t.Errorf("P5.3: without data: %d, error %d", n, e)
	}
	all := make([]int64, 4096)
	all[4095] = 9
	wantWord(t, made(t, api.Image{Code: " ", Data: all, Syms: threadsAt(0)}), x+8*4095, 9)
}

func TestWhichThreadAPickNames(t *testing.T) {
	for threads := 1; threads <= 4; threads++ {
		for _, c := range []struct {
			pick int
			q    int
		}{
			{0, 0}, {2, 1}, {4, 2}, {6, 3}, {8, 4}, {10, 5}, {24, 12}, {1000006, 500003}, {math.MaxInt - 1, 1<<62 - 1},
			{-1, 0}, {-3, 1}, {-5, 2}, {-7, 3}, {-9, 4}, {-25, 12}, {math.MinInt + 1, 1<<62 - 1},
		} {
			m := made(t, image(nil, slices.Repeat([]string{code(movi(1, 5))}, threads)...))
			before := make([]api.CPU, threads)
			for k := range threads {
				before[k], _ = m.Thread(k)
			}
			before[c.q%threads].PC += 10
			before[c.q%threads].R[1] = 5
			do(t, m, c.pick)
			for k := range threads {
				wantCPU(t, m, k, before[k])
			}
		}
	}
}

func TestWhichStoreAPickNames(t *testing.T) {
	store := code(movi(1, x), st(1, 7, 0), st(1, 1, 8))
	for threads := 1; threads <= 4; threads++ {
		for _, c := range []struct {
			pick int
			q    int
		}{
			{1, 0}, {3, 1}, {5, 2}, {7, 3}, {9, 4}, {25, 12}, {1000007, 500003}, {math.MaxInt, 1<<62 - 1},
			{-2, 0}, {-4, 1}, {-6, 2}, {-8, 3}, {-10, 4}, {-26, 12}, {math.MinInt, 1<<62 - 1},
		} {
			m := made(t, image([]int64{0, 0}, slices.Repeat([]string{store}, threads)...))
			for k := range threads {
				steps(t, m, k, 3)
			}
			picked := c.q % threads
			cpu, _ := m.Thread(picked)
			do(t, m, c.pick)
			for k := range threads {
				want := []api.Wait{{Addr: x, Value: stack + int64(k+1)*65536}, {Addr: y, Value: x}}
				if k == picked {
					want = want[1:]
				}
				wantWaits(t, m, k, want...)
			}
			wantCPU(t, m, picked, cpu)
			wantWord(t, m, x, stack+int64(picked+1)*65536)
			wantWord(t, m, y, 0)
			do(t, m, c.pick)
			wantWord(t, m, y, x)
			if m.Do(c.pick) {
				t.Errorf("P5.2: pick %d: there is no store that waits", c.pick)
			}
		}
	}
}

func TestExample(t *testing.T) {
	cross := func(own int64, other int64) string {
		return code(movi(1, own), movi(2, 1), st(1, 2, 0), movi(1, other), ld(3, 1, 0), out(3), of(api.HALT))
	}
	im := image([]int64{0, 0}, cross(x, y), cross(y, x))
	for _, c := range []struct {
		name  string
		picks []int
		want  []api.Event
	}{
		{"no store leaves", []int{0, 0, 0, 0, 0, 0, 2, 2, 2, 2, 2, 2}, []api.Event{printed(0, 0), printed(1, 0)}},
		{"at the end the stores leave", []int{0, 0, 0, 0, 0, 0, 0, 2, 2, 2, 2, 2, 2, 2}, []api.Event{printed(0, 0), ended(0), printed(1, 1), ended(1)}},
		{"one store leaves", []int{0, 0, 0, 1, 2, 2, 2, 2, 2, 2, 0, 0, 0}, []api.Event{printed(1, 1), printed(0, 0)}},
		{"both stores leave", []int{0, 0, 0, 1, 2, 2, 2, 3, 2, 2, 2, 0, 0, 0}, []api.Event{printed(1, 1), printed(0, 1)}},
		{"a store leaves too late", []int{0, 0, 0, 2, 2, 2, 2, 2, 1, 2, 0, 0, 0, 3}, []api.Event{printed(1, 0), printed(0, 0)}},
		{"picks that do nothing", []int{1, 3, 1, 0, 1, 5, 7}, nil},
		{"no picks", nil, nil},
	} {
		if l, e := tso.Run(im, c.picks); e != api.OK || !slices.Equal(l, c.want) {
			t.Errorf("P5.2, P5.3: %s: %v, error %d; want %v", c.name, l, e, c.want)
		}
	}
}

func TestOwnNewestStore(t *testing.T) {
	m := made(t, image([]int64{1, 2},
		code(movi(1, x), movi(2, 10), st(1, 2, 0), st(1, 1, 8), movi(2, 11), st(1, 2, 0), ld(3, 1, 0), ld(4, 1, 8)),
		code(movi(1, x), ld(3, 1, 0), ld(3, 1, 0), ld(3, 1, 0))))
	steps(t, m, 0, 8)
	c, _ := m.Thread(0)
	if c.R[3] != 11 || c.R[4] != x {
		t.Errorf("P5.2: a thread reads its own newest store: %v", c)
	}
	wantWaits(t, m, 0, api.Wait{Addr: x, Value: 10}, api.Wait{Addr: y, Value: x}, api.Wait{Addr: x, Value: 11})
	steps(t, m, 1, 2)
	for left, want := range []int64{1, 10, 10} {
		if c, _ := m.Thread(1); c.R[3] != want {
			t.Errorf("P5.2: behind %d that left the other thread reads %d; want %d", left, c.R[3], want)
		}
		if left < 2 {
			do(t, m, 1, 2)
		}
	}
	wantWaits(t, m, 0, api.Wait{Addr: x, Value: 11})
	do(t, m, 1)
	wantWord(t, m, x, 11)
	wantWord(t, m, y, x)
	if m.Do(1) {
		t.Error("P5.2: there is no store that waits")
	}
}

// A load that finds its word in a store that left reads memory, whoever has turned it since.
func TestLoadBehindAnotherThreadsStore(t *testing.T) {
	m := made(t, image([]int64{0},
		code(movi(1, x), st(1, 1, 0), ld(2, 1, 0), ld(3, 1, 0), ld(4, 1, 0)),
		code(movi(1, x), st(1, 7, 0))))
	steps(t, m, 1, 2)
	steps(t, m, 0, 2)
	do(t, m, 0, 1, 0, 3, 0)
	if c, _ := m.Thread(0); c.R[2] != x || c.R[3] != x || c.R[4] != stack+2*65536 {
		t.Errorf("P5.2: %v", c)
	}
}

// full is code that leaves eight stores waiting, at x and the seven words behind it, of 100 and more, in 17 steps; R1 is x.
func full() []api.Ins {
	l := []api.Ins{movi(1, x)}
	for k := range int64(8) {
		l = append(l, movi(2, 100+k), st(1, 2, 8*k))
	}
	return l
}

func fullWaits() []api.Wait {
	var l []api.Wait
	for k := range int64(8) {
		l = append(l, api.Wait{Addr: x + 8*k, Value: 100 + k})
	}
	return l
}

func TestBufferThatIsFull(t *testing.T) {
	m := made(t, image(make([]int64, 8), code(append(full(), movi(2, 5), st(1, 2, 0), st(1, 2, 56), ld(3, 1, 0), ld(4, 1, 8), ld(5, 1, 56))...)))
	steps(t, m, 0, 17)
	wantWaits(t, m, 0, fullWaits()...)
	for k := range int64(8) {
		wantWord(t, m, x+8*k, 0)
	}
	steps(t, m, 0, 2)
	want := append(fullWaits()[1:], api.Wait{Addr: x, Value: 5})
	wantWaits(t, m, 0, want...)
	wantWord(t, m, x, 100)
	wantWord(t, m, y, 0)
	steps(t, m, 0, 1)
	want = append(want[1:], api.Wait{Addr: x + 56, Value: 5})
	wantWaits(t, m, 0, want...)
	wantWord(t, m, y, 101)
	steps(t, m, 0, 3)
	if c, _ := m.Thread(0); c.R[3] != 5 || c.R[4] != 101 || c.R[5] != 5 {
		t.Errorf("P5.2: %v", c)
	}
	for left := range 8 {
		wantWaits(t, m, 0, want[left:]...)
		do(t, m, 1)
	}
	if m.Do(1) {
		t.Error("P5.2: there is no store that waits")
	}
	wantWord(t, m, x, 5)
	wantWord(t, m, x+56, 5)
}

func TestCallStoresWait(t *testing.T) {
	m := made(t, image(nil, code(jump(api.CALL, 0, 1), of(api.HALT), of(api.RET))))
	do(t, m, 0)
	top := stack + 65536
	wantWaits(t, m, 0, api.Wait{Addr: top - 8, Value: 4101})
	wantWord(t, m, top-8, 0)
	wantCPU(t, m, 0, api.CPU{PC: 4102, R: [api.Regs]int64{7: top - 8}})
	do(t, m, 0)
	wantCPU(t, m, 0, api.CPU{PC: 4101, R: [api.Regs]int64{7: top}})
	do(t, m, 0)
	wantWaits(t, m, 0)
	wantWord(t, m, top-8, 4101)
	wantEvents(t, m, ended(0))
}

func TestFence(t *testing.T) {
	m := made(t, image(make([]int64, 8), code(append(full(), st(1, 1, 0), of(api.FENCE), of(api.FENCE))...), code(append(full(), of(api.FENCE))...)))
	steps(t, m, 1, 17)
	steps(t, m, 0, 18)
	before, _ := m.Thread(0)
	do(t, m, 0)
	before.PC++
	wantCPU(t, m, 0, before)
	wantWaits(t, m, 0)
	wantWaits(t, m, 1, fullWaits()...)
	wantWord(t, m, x, x)
	for k := int64(1); k < 8; k++ {
		wantWord(t, m, x+8*k, 100+k)
	}
	do(t, m, 0)
	wantEvents(t, m)
	do(t, m, 2)
	wantWaits(t, m, 1)
	wantWord(t, m, x, 100)
}

// Of stores to one word the newest one must be what stands there, when all have left.
func TestFenceKeepsTheOrder(t *testing.T) {
	for _, end := range []api.Ins{of(api.FENCE), of(api.HALT), xadd(1, 3, 8), xchg(1, 3, 8)} {
		m := made(t, image([]int64{0, 0}, code(movi(1, x), movi(2, 1), st(1, 2, 0), movi(2, 2), st(1, 2, 0), movi(2, 3), st(1, 2, 0), end)))
		steps(t, m, 0, 8)
		wantWaits(t, m, 0)
		wantWord(t, m, x, 3)
	}
}

func TestHaltLetsStoresLeave(t *testing.T) {
	m := made(t, image(make([]int64, 8), code(append(full(), of(api.HALT))...), code(movi(1, x))))
	steps(t, m, 0, 17)
	wantEvents(t, m)
	before, _ := m.Thread(0)
	do(t, m, 0)
	before.PC++
	before.State = api.Halted
	wantCPU(t, m, 0, before)
	wantWaits(t, m, 0)
	for k := range int64(8) {
		wantWord(t, m, x+8*k, 100+k)
	}
	wantEvents(t, m, ended(0))
	for _, pick := range []int{0, 1, 4, 5, -1, -2} {
		if m.Do(pick) {
			t.Errorf("P5.2: pick %d of one that halted did something", pick)
		}
	}
	wantCPU(t, m, 0, before)
	wantEvents(t, m, ended(0))
	do(t, m, 2)
}

func TestExchanges(t *testing.T) {
	for _, c := range []struct {
		name  string
		i     api.Ins
		value int64 // in R2
		back  int64
		then  int64 // what stands at x
	}{
		{"xchg", xchg(1, 2, 0), 9, 5, 9},
		{"xchg of the least", xchg(1, 2, 0), least, 5, least},
		{"xadd", xadd(1, 2, 0), 9, 5, 14},
		{"xadd of less", xadd(1, 2, 0), -9, 5, -4},
		{"xadd round", xadd(1, 2, 0), greatest, 5, least + 4},
	} {
		m := made(t, image([]int64{5, 6}, code(movi(1, x), movi(2, c.value), c.i)))
		steps(t, m, 0, 3)
		wantCPU(t, m, 0, api.CPU{PC: 4096 + 26, R: [api.Regs]int64{1: x, 2: c.back, 7: stack + 65536}})
		wantWord(t, m, x, c.then)
		wantWord(t, m, y, 6)
		wantWaits(t, m, 0)
		wantEvents(t, m)
	}
}

func TestExchangeOfOneRegister(t *testing.T) {
	m := made(t, image([]int64{5}, code(movi(1, x), xchg(1, 1, 0), movi(1, x), xadd(1, 1, 0))))
	steps(t, m, 0, 2)
	wantWord(t, m, x, x)
	if c, _ := m.Thread(0); c.R[1] != 5 {
		t.Errorf("P5.2: %v", c)
	}
	steps(t, m, 0, 2)
	wantWord(t, m, x, 2*x)
	if c, _ := m.Thread(0); c.R[1] != x {
		t.Errorf("P5.2: %v", c)
	}
}

func TestExchangeWithStoresThatWait(t *testing.T) {
	for _, c := range []struct {
		name string
		i    api.Ins
		then int64
	}{
		{"xchg", xchg(1, 2, 8), 50},
		{"xadd", xadd(1, 2, 8), 151},
	} {
		m := made(t, image(make([]int64, 8), code(append(full(), movi(2, 50), c.i)...), code(append(full(), of(api.HALT))...)))
		steps(t, m, 1, 17)
		steps(t, m, 0, 19)
		if r, _ := m.Thread(0); r.R[2] != 101 {
			t.Errorf("P5.2: %s: its own store that left is what is read: %v", c.name, r)
		}
		wantWaits(t, m, 0)
		wantWaits(t, m, 1, fullWaits()...)
		wantWord(t, m, x, 100)
		wantWord(t, m, y, c.then)
		wantWord(t, m, x+56, 107)
	}
}

// Another thread's waiting store is not seen by an exchange, and overwrites it when it leaves.
func TestExchangeAheadOfAnotherThreadsStore(t *testing.T) {
	m := made(t, image([]int64{5}, code(movi(1, x), movi(2, 9), xchg(1, 2, 0)), code(movi(1, x), st(1, 1, 0), ld(3, 1, 0))))
	steps(t, m, 1, 2)
	steps(t, m, 0, 3)
	if c, _ := m.Thread(0); c.R[2] != 5 {
		t.Errorf("P5.2: %v", c)
	}
	do(t, m, 2)
	if c, _ := m.Thread(1); c.R[3] != x {
		t.Errorf("P5.2: %v", c)
	}
	wantWord(t, m, x, 9)
	do(t, m, 3)
	wantWord(t, m, x, x)
}

// faultsAt lets a thread with so many waiting stores touch an address that is none.
func faultsAt(t *testing.T, i api.Ins, addr int64, waiting int) {
	t.Helper()
	l := append(full()[:1+2*waiting], movi(3, addr), movi(4, 1), movi(7, addr))
	if i.Op == api.CALL {
		l[len(l)-1] = movi(7, addr+8)
	}
	m := made(t, image(make([]int64, 8), code(append(l, i, of(api.HALT))...), code(of(api.HALT))))
	steps(t, m, 0, len(l))
	before, _ := m.Thread(0)
	do(t, m, 0)
	before.State, before.Trap = api.Trapped, 2
	wantCPU(t, m, 0, before)
	wantWaits(t, m, 0, fullWaits()[:waiting]...)
	wantEvents(t, m, fault(0, 2))
	for k := range int64(8) {
		wantWord(t, m, x+8*k, 0)
	}
	if m.Do(0) {
		t.Errorf("P5.2: one that trapped goes on")
	}
	for k := range waiting {
		do(t, m, 1)
		wantWord(t, m, x+8*int64(k), 100+int64(k))
	}
	if m.Do(1) {
		t.Error("P5.2: there is no store that waits")
	}
	wantEvents(t, m, fault(0, 2))
}

func TestAddressesThatAreNone(t *testing.T) {
	for _, i := range []api.Ins{ld(5, 3, 0), ld(3, 3, 0), st(3, 4, 0), xchg(3, 4, 0), xchg(3, 3, 0), xadd(3, 4, 0), jump(api.CALL, 0, 0), of(api.RET)} {
		for _, addr := range notWords(8, 2) {
			for _, waiting := range []int{0, 1, 8} {
				faultsAt(t, i, addr, waiting)
			}
		}
	}
}

func TestAddressesThatAreSome(t *testing.T) {
	for _, addr := range []int64{x, x + 56, stack, stack + 65528, stack + 65536, stack + 2*65536 - 8} {
		m := made(t, image(make([]int64, 8), code(movi(1, addr-16), movi(2, 77), st(1, 2, 16), ld(3, 1, 16), xadd(1, 2, 16), xchg(1, 2, 16), ld(4, 1, 16), of(api.HALT)), code(of(api.HALT))))
		steps(t, m, 0, 8)
		wantEvents(t, m, ended(0))
		if c, _ := m.Thread(0); c.R[2] != 154 || c.R[3] != 77 || c.R[4] != 77 {
			t.Errorf("P5.2: at %d: %v", addr, c)
		}
		wantWord(t, m, addr, 77)
	}
}

// The first thread's stack ends where the second one's begins; behind the last one's there is nothing.
func TestReturnWithoutACall(t *testing.T) {
	m := made(t, image(nil, code(of(api.RET)), code(of(api.RET))))
	do(t, m, 0)
	wantCPU(t, m, 0, api.CPU{PC: 0, R: [api.Regs]int64{7: stack + 65536 + 8}})
	do(t, m, 2)
	wantCPU(t, m, 1, api.CPU{PC: 4097, R: [api.Regs]int64{7: stack + 2*65536}, State: api.Trapped, Trap: 2})
	do(t, m, 0)
	wantEvents(t, m, fault(1, 2), fault(0, 3))
}

func TestCodeThatIsNone(t *testing.T) {
	for _, c := range []struct {
		name string
		code string
		at   int
	}{
		{"no instruction", "\x00", 0},
		{"no instruction behind the last one", "\x22", 0},
		{"one that is cut short", code(movi(1, 5))[:9], 0},
		{"a register that is none", "\x02\x80", 0},
		{"a trap that is none", "\x21\x80", 0},
		{"inside an instruction", code(movi(1, 0)), 2},
	} {
		im := api.Image{Code: c.code, Syms: threadsAt(c.at)}
		m := made(t, im)
		do(t, m, 0)
		wantCPU(t, m, 0, api.CPU{PC: 4096 + int64(c.at), R: [api.Regs]int64{7: stack + 65536}, State: api.Trapped, Trap: 3})
		wantEvents(t, m, fault(0, 3))
		if m.Do(0) {
			t.Errorf("P5.2: %s: it goes on", c.name)
		}
	}
}

// goesTo lets a thread return to a place, with stores that wait.
func goesTo(t *testing.T, pc int64) *tso.Machine {
	t.Helper()
	l := []api.Ins{movi(1, x), movi(2, pc), st(1, 2, 0), movi(7, x), of(api.RET), of(api.HALT)}
	m := made(t, image([]int64{0}, code(l...)))
	steps(t, m, 0, 5)
	wantEvents(t, m)
	wantCPU(t, m, 0, api.CPU{PC: pc, R: [api.Regs]int64{1: x, 2: pc, 7: y}})
	do(t, m, 0)
	return m
}

func TestPlacesThatAreNone(t *testing.T) {
	size := int64(len(code(movi(1, x), movi(2, 0), st(1, 2, 0), movi(7, x), of(api.RET), of(api.HALT))))
	for _, pc := range []int64{least, least + 4095, least + 4096, -4096, -1, 0, 1, 4095, 4096 + size, 4097 + size, 4096 + 65536, 4096 + 1<<32, 1<<32 + 4095 + size, x, stack, greatest - 4096, greatest} {
		m := goesTo(t, pc)
		wantCPU(t, m, 0, api.CPU{PC: pc, R: [api.Regs]int64{1: x, 2: pc, 7: y}, State: api.Trapped, Trap: 3})
		wantEvents(t, m, fault(0, 3))
		wantWaits(t, m, 0, api.Wait{Addr: x, Value: pc})
		do(t, m, 1)
		wantWord(t, m, x, pc)
	}
	wantEvents(t, goesTo(t, 4095+size), ended(0))
}

// A jump into an instruction does what stands there, if that is an instruction.
func TestJumpIntoAnInstruction(t *testing.T) {
	im := image(nil, code(movi(1, 0x20), jump(api.JMPS, 0, -10)))
	l, e := tso.Run(im, []int{0, 0, 0, 0})
	if e != api.OK || !slices.Equal(l, []api.Event{ended(0)}) {
		t.Errorf("P5.2: %v, error %d", l, e)
	}
}

func TestTraps(t *testing.T) {
	for _, c := range []struct {
		name string
		i    api.Ins
		n    int64
	}{
		{"trap 0", api.Ins{Op: api.TRAP}, 0},
		{"trap 1", api.Ins{Op: api.TRAP, N: 1}, 1},
		{"trap 127", api.Ins{Op: api.TRAP, N: 127}, 127},
		{"div", api.Ins{Op: api.DIV, A: 1, B: 6}, 1},
		{"rem", api.Ins{Op: api.REM, A: 1, B: 6}, 1},
	} {
		m := made(t, image(make([]int64, 8), code(append(full(), c.i, of(api.HALT))...)))
		steps(t, m, 0, 17)
		before, _ := m.Thread(0)
		do(t, m, 0)
		before.State, before.Trap = api.Trapped, c.n
		wantCPU(t, m, 0, before)
		wantWaits(t, m, 0, fullWaits()...)
		wantEvents(t, m, fault(0, c.n))
		if m.Do(0) {
			t.Errorf("P5.2: %s: it goes on", c.name)
		}
		do(t, m, 1)
		wantWord(t, m, x, 100)
		wantEvents(t, m, fault(0, c.n))
	}
}

func TestEvents(t *testing.T) {
	m := made(t, image(nil,
		code(movi(1, least), out(1), out(2), of(api.HALT)),
		code(out(7), api.Ins{Op: api.TRAP, N: 9}),
		code(of(api.HALT))))
	wantEvents(t, m)
	do(t, m, 0, 2, 4, 0, 2, 0, 0)
	wantEvents(t, m, printed(1, stack+2*65536), ended(2), printed(0, least), fault(1, 9), printed(0, 0), ended(0))
	for pick := range 20 {
		if m.Do(pick) {
			t.Errorf("P5.2: pick %d did something: all threads are at their ends", pick)
		}
	}
	if len(m.Events()) != 6 {
		t.Errorf("P5.3: %v", m.Events())
	}
}

func TestLoop(t *testing.T) {
	im := image([]int64{0}, code(movi(1, x), movi(2, 1), movi(3, 1000), xadd(1, 2, 0), movi(2, 1), api.Ins{Op: api.SUB, A: 3, B: 2}, jump(api.JNZS, 3, -21), ld(4, 1, 0), out(4), of(api.HALT)))
	l, e := tso.Run(im, make([]int, 3+4*1000+3))
	if e != api.OK || !slices.Equal(l, []api.Event{printed(0, 1000), ended(0)}) {
		t.Errorf("P5.2: %v, error %d", l, e)
	}
}
