package mem_test

import (
	"math"
	"slices"
	"testing"

	"cotter/api"
	"cotter/mem"
)

// The calls have the types that the chapter lists.
var (
	_ func([]api.Region) (*mem.Memory, api.Errno) = mem.New
	_ func(*mem.Memory, int64) (int64, api.Errno) = (*mem.Memory).Load
	_ func(*mem.Memory, int64, int64) api.Errno   = (*mem.Memory).Store
	_ func(*mem.Memory) api.Foot                  = (*mem.Memory).Foot
	_ func(*mem.Memory, int) []int64              = (*mem.Memory).Words
	_ func(...api.Foot) api.Foot                  = mem.Join
	_ func(api.Foot, api.Foot) bool               = mem.Clash
)

const top = int64(1) << 40

func words(n int) []int64 {
	return make([]int64, n)
}

func region(base int64, n int) api.Region {
	return api.Region{Base: base, Words: words(n), Write: true}
}

// made is a memory that must be.
func made(t *testing.T, l ...api.Region) *mem.Memory {
	t.Helper()
	m, e := mem.New(l)
	if m == nil || e != api.OK {
		t.Fatalf("P2.1: New: error %d", e)
	}
	return m
}

func example(t *testing.T) *mem.Memory {
	t.Helper()
	return made(t, api.Region{Base: 0, Words: []int64{5, 6}, Write: true}, api.Region{Base: 64, Words: []int64{7}})
}

func wantLoad(t *testing.T, m *mem.Memory, addr int64, want int64, code api.Errno) {
	t.Helper()
	if n, e := m.Load(addr); n != want || e != code {
		t.Errorf("P2.2: Load of %d: %d, error %d; want %d, error %d", addr, n, e, want, code)
	}
}

func wantFoot(t *testing.T, f api.Foot, reads []int64, writes []int64) {
	t.Helper()
	if !slices.Equal(f.Reads, reads) || !slices.Equal(f.Writes, writes) {
		t.Errorf("footprint: %v; want %d, %d", f, reads, writes)
	}
}

// many is so many regions of a word each, with a word between any two.
func many(n int) []api.Region {
	var l []api.Region
	for i := range n {
		l = append(l, region(int64(i)*16, 1))
	}
	return l
}

func TestRegionsThatMayBe(t *testing.T) {
	for _, c := range []struct {
		name string
		l    []api.Region
	}{
		{"none (nil)", nil},
		{"none", []api.Region{}},
		{"one without words", []api.Region{{}}},
		{"16", many(16)},
		{"16 without words at one base", make([]api.Region, 16)},
		{"base 2^40", []api.Region{region(top, 1)}},
		{"base 2^40 and all words", []api.Region{region(top, 65536)}},
		{"base 2^40 without words", []api.Region{region(top, 0)}},
		{"65536 words", []api.Region{region(0, 65536)}},
		{"side by side", []api.Region{region(0, 2), region(16, 1)}},
		{"side by side, the last one first", []api.Region{region(16, 1), region(0, 2)}},
		{"three side by side", []api.Region{region(16, 1), region(0, 2), region(24, 3)}},
		{"none at another one's base", []api.Region{region(16, 2), region(16, 0)}},
		{"none at another one's base, first", []api.Region{region(16, 0), region(16, 2)}},
		{"none at another one's end", []api.Region{region(16, 2), region(32, 0)}},
		{"none at another one's end, first", []api.Region{region(32, 0), region(16, 2)}},
		{"none between two side by side", []api.Region{region(0, 2), region(16, 0), region(16, 2)}},
		{"none ahead of another one", []api.Region{region(16, 2), region(8, 0)}},
		{"none behind another one", []api.Region{region(16, 2), region(40, 0)}},
	} {
		m, e := mem.New(c.l)
		if m == nil || e != api.OK {
			t.Errorf("P2.1: %s: error %d", c.name, e)
			continue
		}
		for i, r := range c.l {
			if l := m.Words(i); len(l) != len(r.Words) {
				t.Errorf("P2.1: %s: region %d has %d words", c.name, i, len(l))
			}
		}
	}
}

func TestRegionsThatMayNotBe(t *testing.T) {
	for _, c := range []struct {
		name string
		l    []api.Region
	}{
		{"17", many(17)},
		{"17 without words", make([]api.Region, 17)},
		{"base 4", []api.Region{region(4, 1)}},
		{"base 1 without words", []api.Region{region(1, 0)}},
		{"base 7", []api.Region{region(7, 1)}},
		{"base -8", []api.Region{region(-8, 1)}},
		{"base -8 without words", []api.Region{region(-8, 0)}},
		{"base -1", []api.Region{region(-1, 1)}},
		{"the least base", []api.Region{region(math.MinInt64, 1)}},
		{"base above 2^40", []api.Region{region(top+8, 1)}},
		{"base above 2^40 without words", []api.Region{region(top+8, 0)}},
		{"base just above 2^40", []api.Region{region(top+1, 0)}},
		{"the greatest base", []api.Region{region(math.MaxInt64-7, 1)}},
		{"65537 words", []api.Region{region(0, 65537)}},
		{"a wrong one behind a right one", []api.Region{region(0, 1), region(12, 1)}},
		{"a wrong one ahead of a right one", []api.Region{region(12, 1), region(0, 1)}},
		{"the same twice", []api.Region{region(8, 1), region(8, 1)}},
		{"one over another one's end", []api.Region{region(0, 2), region(8, 2)}},
		{"one over another one's end, first", []api.Region{region(8, 2), region(0, 2)}},
		{"one inside another one", []api.Region{region(0, 4), region(8, 1)}},
		{"one inside another one, first", []api.Region{region(8, 1), region(0, 4)}},
		{"one over the base of another one", []api.Region{region(0, 4), region(0, 1)}},
		{"the first and the last", []api.Region{region(0, 1), region(16, 2), region(24, 1)}},
		{"at 2^40", []api.Region{region(top-8, 2), region(top, 1)}},
		{"at the last word", []api.Region{region(0, 65536), region(65535*8, 1)}},
		{"none inside another one", []api.Region{region(0, 2), region(8, 0)}},
		{"none inside another one, first", []api.Region{region(8, 0), region(0, 2)}},
		{"none inside the last word", []api.Region{region(0, 65536), region(65535*8, 0)}},
		{"none inside one that reaches over 2^40", []api.Region{region(top-8, 2), region(top, 0)}},
	} {
		if m, e := mem.New(c.l); m != nil || e != api.ErrArg {
			t.Errorf("P2.1: %s: %v, error %d", c.name, m != nil, e)
		}
	}
}

func TestLoad(t *testing.T) {
	m := example(t)
	wantLoad(t, m, 0, 5, api.OK)
	wantLoad(t, m, 8, 6, api.OK)
	wantLoad(t, m, 64, 7, api.OK)
	for _, addr := range []int64{math.MinInt64, -64, -8, -7, -1, 1, 2, 3, 4, 5, 6, 7, 9, 12, 15, 16, 24, 56, 63, 65, 71, 72, 80, top, math.MaxInt64 - 7, math.MaxInt64} {
		wantLoad(t, m, addr, 0, api.ErrFault)
	}
}

func TestStore(t *testing.T) {
	m := example(t)
	for _, c := range []struct {
		addr int64
		want api.Errno
	}{
		{0, api.OK}, {8, api.OK},
		{64, api.ErrFault}, // may not be written
		{-8, api.ErrFault}, {4, api.ErrFault}, {16, api.ErrFault}, {56, api.ErrFault}, {72, api.ErrFault}, {68, api.ErrFault}, {math.MinInt64, api.ErrFault}, {math.MaxInt64, api.ErrFault},
	} {
		if e := m.Store(c.addr, 100+c.addr); e != c.want {
			t.Errorf("P2.2: Store at %d: error %d; want %d", c.addr, e, c.want)
		}
	}
	if l := m.Words(0); !slices.Equal(l, []int64{100, 108}) {
		t.Errorf("P2.2: %d", l)
	}
	if l := m.Words(1); !slices.Equal(l, []int64{7}) {
		t.Errorf("P2.2: a store turned what may not be written: %d", l)
	}
	wantLoad(t, m, 64, 7, api.OK)
}

func TestEndsOfRegions(t *testing.T) {
	m := made(t, region(top, 65536), region(0, 65536), region(8*65536, 0), region(8*65536, 1))
	for _, addr := range []int64{0, 8 * 65535, 8 * 65536, top, top + 8*65535} {
		wantLoad(t, m, addr, 0, api.OK)
		for _, n := range []int64{math.MinInt64, math.MaxInt64, addr + 1} {
			if e := m.Store(addr, n); e != api.OK {
				t.Errorf("P2.2: Store at %d: error %d", addr, e)
			}
			wantLoad(t, m, addr, n, api.OK)
		}
	}
	for _, addr := range []int64{-8, 8 * 65537, top - 8, top + 8*65536} {
		wantLoad(t, m, addr, 0, api.ErrFault)
	}
	if l := m.Words(1); l[0] != 1 || l[65535] != 8*65535+1 {
		t.Error("P2.5: what was stored is not there")
	}
	if l := m.Words(3); !slices.Equal(l, []int64{8*65536 + 1}) {
		t.Errorf("P2.5: %d", l)
	}
}

func TestRegionWithoutWordsHidesNone(t *testing.T) {
	m := made(t, api.Region{Base: 16}, api.Region{Base: 16, Words: []int64{3}, Write: true}, api.Region{Base: 24, Write: true}, api.Region{Base: 24, Words: []int64{4}})
	wantLoad(t, m, 16, 3, api.OK)
	wantLoad(t, m, 24, 4, api.OK)
	if m.Store(16, 9) != api.OK || m.Store(24, 9) != api.ErrFault {
		t.Error("P2.2: a region without words may be written, or not, for another one")
	}
	none := made(t)
	wantLoad(t, none, 0, 0, api.ErrFault)
	if none.Store(0, 1) != api.ErrFault || len(none.Words(0)) != 0 {
		t.Error("P2.2: a memory without regions")
	}
	wantFoot(t, none.Foot(), nil, nil)
}

func TestFoot(t *testing.T) {
	m := example(t)
	wantFoot(t, m.Foot(), nil, nil)
	for _, addr := range []int64{64, 8, 64, 8, 4, 16, -8} {
		m.Load(addr)
	}
	wantFoot(t, m.Foot(), []int64{8, 64}, nil)
	wantFoot(t, m.Foot(), nil, nil)
	m.Store(8, 6)
	m.Store(0, 1)
	m.Store(8, 2)
	m.Store(64, 1)
	m.Store(16, 1)
	m.Store(3, 1)
	wantFoot(t, m.Foot(), nil, []int64{0, 8})
	m.Store(0, 3)
	m.Load(0)
	m.Words(0)
	m.Words(1)
	wantFoot(t, m.Foot(), []int64{0}, []int64{0})
	m.Words(0)
	wantFoot(t, m.Foot(), nil, nil)
	wantLoad(t, m, 8, 2, api.OK)
	wantFoot(t, m.Foot(), []int64{8}, nil)
}

func TestFootOfTheExample(t *testing.T) {
	m := example(t)
	wantLoad(t, m, 8, 6, api.OK)
	wantLoad(t, m, 4, 0, api.ErrFault)
	wantLoad(t, m, 16, 0, api.ErrFault)
	if e := m.Store(64, 1); e != api.ErrFault {
		t.Errorf("P2.2: error %d", e)
	}
	wantFoot(t, m.Foot(), []int64{8}, nil)
}

func TestFootIsRising(t *testing.T) {
	m := made(t, region(8*100, 100), region(0, 100))
	var want []int64
	for i := range int64(200) {
		addr := i * 73 % 200 * 8
		want = append(want, i*8)
		m.Load(addr)
		m.Store(1592-addr, i)
	}
	wantFoot(t, m.Foot(), want, want)
}

func TestWords(t *testing.T) {
	m := example(t)
	for _, i := range []int{math.MinInt, -1, 2, 3, 1 << 32, math.MaxInt} {
		if l := m.Words(i); len(l) != 0 {
			t.Errorf("P2.3: Words of %d: %d", i, l)
		}
	}
	if l := m.Words(0); !slices.Equal(l, []int64{5, 6}) {
		t.Errorf("P2.3: %d", l)
	}
	m.Store(0, -1)
	if l := m.Words(0); !slices.Equal(l, []int64{-1, 6}) {
		t.Errorf("P2.3: %d", l)
	}
	if l := m.Words(1); !slices.Equal(l, []int64{7}) {
		t.Errorf("P2.3: %d", l)
	}
}

// A memory does what a list of words by their addresses does.
func TestStoresTurnNoOtherWord(t *testing.T) {
	m := made(t, region(80, 10), api.Region{Base: 160, Words: []int64{1, 2, 3}}, region(0, 10))
	want := map[int64]int64{160: 1, 168: 2, 176: 3}
	for addr := int64(0); addr < 160; addr += 8 {
		want[addr] = 0
	}
	state := uint64(1)
	for range 2000 {
		state = state*6364136223846793005 + 1442695040888963407
		addr, n := int64(state>>33%30)*8-24, int64(state)
		_, ok := want[addr]
		if e := m.Store(addr, n); (e == api.OK) != (ok && addr < 160) {
			t.Fatalf("P2.2: Store at %d: error %d", addr, e)
		} else if e == api.OK {
			want[addr] = n
		}
		for a := int64(-32); a < 220; a += 8 {
			w, ok := want[a]
			if n, e := m.Load(a); n != w || (e == api.OK) != ok {
				t.Fatalf("P2.5: Load of %d behind a store at %d: %d, error %d; want %d", a, addr, n, e, w)
			}
		}
	}
}

func TestJoin(t *testing.T) {
	a := api.Foot{Reads: []int64{8, 0, 8}, Writes: []int64{16}}
	b := api.Foot{Reads: []int64{16, 8}, Writes: []int64{math.MaxInt64, 3, math.MinInt64, 16}}
	wantFoot(t, mem.Join(), nil, nil)
	wantFoot(t, mem.Join(nil...), nil, nil)
	wantFoot(t, mem.Join(api.Foot{}, api.Foot{}), nil, nil)
	wantFoot(t, mem.Join(a), []int64{0, 8}, []int64{16})
	for _, l := range [][]api.Foot{{a, b}, {b, a}, {a, b, a}, {{}, b, a, {}}, {mem.Join(a, b)}, {mem.Join(a), mem.Join(b)}} {
		wantFoot(t, mem.Join(l...), []int64{0, 8, 16}, []int64{math.MinInt64, 3, 16, math.MaxInt64})
	}
	wantFoot(t, mem.Join(api.Foot{Reads: []int64{-8, 5, -16}}, api.Foot{Reads: []int64{-12}}), []int64{-16, -12, -8, 5}, nil)
}

func TestClash(t *testing.T) {
	reads := func(l ...int64) api.Foot { return api.Foot{Reads: l} }
	writes := func(l ...int64) api.Foot { return api.Foot{Writes: l} }
	both := func(r []int64, w ...int64) api.Foot { return api.Foot{Reads: r, Writes: w} }
	for _, c := range []struct {
		name string
		a, b api.Foot
		want bool
	}{
		{"nothing", api.Foot{}, api.Foot{}, false},
		{"nothing and all", api.Foot{}, both([]int64{8}, 8), false},
		{"reads", reads(8, 0), reads(0, 8), false},
		{"write and read", writes(8), reads(8), true},
		{"writes", writes(8), writes(8), true},
		{"write and another read", writes(8), reads(0, 16), false},
		{"other writes", writes(8), writes(16), false},
		{"in any order", writes(64, 0, 24), reads(80, 24, 8), true},
		{"writes in any order", writes(64, 0, 24), writes(80, 64, 8), true},
		{"its own read", both([]int64{8}, 8), reads(16), false},
		{"its own read, and another write", both([]int64{8}, 8), writes(16), false},
		{"its own read is written", both([]int64{16}, 8), writes(16), true},
		{"its own write is read", both([]int64{16}, 8), both([]int64{8}, 24), true},
		{"apart", both([]int64{0, 8}, 16), both([]int64{0, 8}, 24), false},
		{"near", writes(8), both([]int64{7}, 9), false},
		{"the ends", writes(math.MinInt64, 3), reads(math.MaxInt64, math.MinInt64), true},
	} {
		if got := mem.Clash(c.a, c.b); got != c.want {
			t.Errorf("P2.4: %s: %v", c.name, got)
		}
		if got := mem.Clash(c.b, c.a); got != c.want {
			t.Errorf("P2.4: %s, turned: %v", c.name, got)
		}
	}
	f := writes(8)
	if !mem.Clash(f, f) || mem.Clash(reads(8), reads(8)) {
		t.Error("P2.4: one with itself")
	}
}

// Long lists are no hindrance: going through one for each of the other's would not end in time.
func TestLongFootprints(t *testing.T) {
	const n = 1 << 18
	var a, b api.Foot
	for i := range int64(n) {
		a.Writes = append(a.Writes, 16*(n-i))
		b.Reads = append(b.Reads, 16*i+8)
	}
	if mem.Clash(a, b) || mem.Clash(b, a) {
		t.Error("P2.4: lists without a common address")
	}
	b.Reads = append(b.Reads, 16*n)
	if !mem.Clash(a, b) || !mem.Clash(b, a) {
		t.Error("P2.4: lists with a common address")
	}
	if f := mem.Join(b, a, b); len(f.Reads) != n+1 || len(f.Writes) != n || !slices.IsSorted(f.Reads) || !slices.IsSorted(f.Writes) {
		t.Errorf("P2.4: %d reads, %d writes", len(f.Reads), len(f.Writes))
	}
}

func TestRegionsAreNotChangedAndNotKept(t *testing.T) {
	room := []int64{5, 6, 7, 8}
	l := []api.Region{{Base: 0, Words: room[:2], Write: true}, {Base: 64, Words: room[2:3]}}
	m := made(t, l...)
	m.Store(0, 50)
	m.Store(8, 60)
	if !slices.Equal(room, []int64{5, 6, 7, 8}) {
		t.Errorf("R5: a store turned what was handed in: %d", room)
	}
	room[0], room[1], room[2] = 1, 1, 1
	l[0], l[1] = api.Region{}, api.Region{Base: 64, Words: room, Write: true}
	wantLoad(t, m, 0, 50, api.OK)
	wantLoad(t, m, 8, 60, api.OK)
	wantLoad(t, m, 64, 7, api.OK)
	if m.Store(64, 1) != api.ErrFault {
		t.Error("R5: the regions were kept")
	}
}

func TestWordsAreNewMemory(t *testing.T) {
	m := example(t)
	first, second := m.Words(0), m.Words(0)
	spoil(first)
	if !slices.Equal(second, []int64{5, 6}) || !slices.Equal(m.Words(0), []int64{5, 6}) || !slices.Equal(m.Words(1), []int64{7}) {
		t.Errorf("R5: %d, %d", second, m.Words(0))
	}
	m.Store(0, 9)
	if !slices.Equal(second, []int64{5, 6}) {
		t.Errorf("R5: a store turned what was answered: %d", second)
	}
}

func TestFootsAreNewMemory(t *testing.T) {
	m := example(t)
	touch := func() api.Foot {
		m.Load(0)
		m.Load(64)
		m.Store(8, 1)
		m.Store(0, 1)
		return m.Foot()
	}
	first, second := touch(), touch()
	spoil(first.Reads)
	wantFoot(t, first, first.Reads, []int64{0, 8})
	spoil(first.Writes)
	wantFoot(t, second, []int64{0, 64}, []int64{0, 8})
	wantFoot(t, touch(), []int64{0, 64}, []int64{0, 8})
}

// spoil overwrites a list, with its spare room.
func spoil(l []int64) {
	l = l[:cap(l)]
	for i := range l {
		l[i] = -77
	}
}

func TestFootprintsAreNotChangedAndNotKept(t *testing.T) {
	room := []int64{24, 8, 0, 8, 99}
	a := api.Foot{Reads: room[:2], Writes: room[2:4]}
	for _, l := range [][]api.Foot{{a}, {a, {}}, {{Reads: a.Reads}, {Writes: a.Writes}}, {a, a}} {
		f := mem.Join(l...)
		mem.Clash(f, a)
		mem.Clash(a, f)
		wantFoot(t, f, []int64{8, 24}, []int64{0, 8})
		spoil(f.Reads)
		wantFoot(t, f, f.Reads, []int64{0, 8})
		spoil(f.Writes)
		if !slices.Equal(room, []int64{24, 8, 0, 8, 99}) {
			t.Fatalf("R5: what was handed in is changed: %d", room)
		}
	}
	sorted := api.Foot{Reads: []int64{0, 8}, Writes: []int64{16}}
	f := mem.Join(sorted)
	spoil(sorted.Reads)
	spoil(sorted.Writes)
	wantFoot(t, f, []int64{0, 8}, []int64{16})
}

func TestMemoriesAreApart(t *testing.T) {
	l := []api.Region{{Base: 0, Words: []int64{5}, Write: true}}
	a, b := made(t, l...), made(t, l...)
	a.Store(0, 1)
	a.Load(0)
	wantFoot(t, b.Foot(), nil, nil)
	wantLoad(t, b, 0, 5, api.OK)
	wantFoot(t, a.Foot(), []int64{0}, []int64{0})
	wantFoot(t, b.Foot(), []int64{0}, nil)
}

func TestAskedAgainItIsTheSame(t *testing.T) {
	for range 20 {
		m := made(t, region(0, 64))
		for i := range int64(64) {
			m.Load((63 - i) * 8)
		}
		if f := m.Foot(); len(f.Reads) != 64 || !slices.IsSorted(f.Reads) || len(f.Writes) != 0 {
			t.Fatalf("R6: %v", f)
		}
	}
}

func TestNoMemoryHasNoWords(t *testing.T) {
	m, e := mem.New([]api.Region{{Base: 4}})
	if m != nil || e != api.ErrArg {
		t.Fatalf("P2.1: error %d", e)
	}
	wantLoad(t, m, 0, 0, api.ErrFault)
	if m.Store(0, 1) != api.ErrFault || len(m.Words(0)) != 0 {
		t.Error("R1: what New answered beside an error")
	}
	wantFoot(t, m.Foot(), nil, nil)
}
