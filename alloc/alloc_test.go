package alloc_test

import (
	"math"
	"math/rand"
	"reflect"
	"slices"
	"testing"

	"cotter/alloc"
	"cotter/api"
)

func constant(d int) api.Op { return api.Op{Op: api.OpConst, D: d} }

func copied(d, a int) api.Op { return api.Op{Op: api.OpCopy, D: d, A: a} }

func add(d, a, b int) api.Op { return api.Op{Op: api.OpBin, What: api.ADD, D: d, A: a, B: b} }

func load(d, a int) api.Op { return api.Op{Op: api.OpLoad, D: d, A: a} }

func store(a, b int) api.Op { return api.Op{Op: api.OpStore, A: a, B: b} }

func call(d int, args ...int) api.Op { return api.Op{Op: api.OpCall, D: d, Args: args} }

func get(d int) api.Op { return api.Op{Op: api.OpGet, D: d} }

func put(d, b int) api.Op { return api.Op{Op: api.OpPut, D: d, B: b} }

func jump(to int) api.Op { return api.Op{Op: api.OpJump, To: to} }

func unless(a, to int) api.Op { return api.Op{Op: api.OpIf, A: a, To: to} }

func show(a int) api.Op { return api.Op{Op: api.OpPrint, A: a} }

func back(a int) api.Op { return api.Op{Op: api.OpRet, A: a} }

var (
	end = api.Op{Op: api.OpEnd}
	acq = api.Op{Op: api.OpAcq}
	rel = api.Op{Op: api.OpRel}
)

// wantLive: of operations over four temps, the first of which is a parameter.
func wantLive(t *testing.T, label string, code []api.Op, first []int, behind ...[]int) {
	t.Helper()
	l, b, e := alloc.Live(api.Func{Params: 1, Temps: 4, Code: code})
	if e != api.OK || len(l) != len(behind) || !slices.Equal(b, first) {
		t.Fatalf("P21.1: %s: %v, %v, error %d", label, l, b, e)
	}
	for at := range l {
		if !slices.Equal(l[at], behind[at]) {
			t.Errorf("P21.1: %s: behind %d: %v", label, at, l[at])
		}
	}
}

func TestLive(t *testing.T) {
	none := []int(nil)
	wantLive(t, "the chapter's example", []api.Op{constant(0), constant(1), add(2, 0, 1), show(2), end}, none, []int{0}, []int{0, 1}, []int{2}, none, none)
	wantLive(t, "nothing", []api.Op{end}, none, none)
	wantLive(t, "its own", []api.Op{add(1, 1, 1), back(1)}, []int{1}, []int{1}, none)
	wantLive(t, "for nobody", []api.Op{copied(1, 0), add(2, 1, 3), end}, []int{0, 3}, []int{1, 3}, none, none)
	wantLive(t, "round", []api.Op{show(1), constant(1), jump(0)}, []int{1}, none, []int{1}, []int{1})
	wantLive(t, "two ways", []api.Op{unless(0, 3), show(1), end, show(2), end}, []int{0, 1, 2}, []int{1, 2}, none, none, none, none)
	wantLive(t, "a way that writes", []api.Op{unless(0, 2), constant(1), back(1)}, []int{0, 1}, []int{1}, []int{1}, none)
	wantLive(t, "a test that leads to what is next", []api.Op{unless(0, 1), back(3)}, []int{0, 3}, []int{3}, none)
	wantLive(t, "what is never come to", []api.Op{jump(3), show(2), jump(1), end}, none, none, []int{2}, []int{2}, none)
	wantLive(t, "calls", []api.Op{call(1, 2, 3, 2), call(-1, 1), get(1), put(-1, 1), put(1, 0), show(1), acq, rel, end}, []int{0, 2, 3}, []int{0, 1}, []int{0}, []int{0, 1}, []int{0}, []int{1}, none, none, none, none)
	wantLive(t, "no element", []api.Op{load(1, -1), store(-1, 1), load(2, 3), store(2, 0), end}, []int{0, 3}, []int{0, 1, 3}, []int{0, 3}, []int{0, 2}, none, none)
	wantLive(t, "a trap", []api.Op{constant(2), {Op: api.OpTrap, N: 1}, back(2)}, none, none, none, none)
}

// Live is what one finds by following all ways; Alloc's places are right by the rules themselves.
func TestMadeUp(t *testing.T) {
	r := rand.New(rand.NewSource(2))
	for range 1500 {
		f := madeUp(r, 1+r.Intn(9), 1+r.Intn(25))
		wantBehind, wantFirst := modelLives(f)
		behind, first, e := alloc.Live(f)
		if e != api.OK || !slices.Equal(first, wantFirst) || !slices.EqualFunc(behind, wantBehind, slices.Equal[[]int]) {
			t.Fatalf("P21.1: %+v: %v, %v, error %d; want %v, %v", f, behind, first, e, wantBehind, wantFirst)
		}
		a, e := alloc.Alloc(f)
		if e != api.OK || !modelRight(f, a) {
			t.Fatalf("P21.2: %+v: %v, error %d", f, a, e)
		}
		if alloc.Check(f, a) != api.OK || alloc.Check(f, own(f.Temps)) != api.OK {
			t.Fatalf("P21.2: %+v: Check of %v", f, a)
		}
	}
}

// Check is the rules, of places at random, and of such as were right but for one.
func TestCheck(t *testing.T) {
	r := rand.New(rand.NewSource(3))
	count := map[bool]int{}
	want := func(f api.Func, a api.Alloc) {
		right := modelRight(f, a)
		count[right]++
		if e := alloc.Check(f, a); (e == api.OK) != right || e != api.OK && e != api.ErrArg {
			t.Fatalf("P21.2: %+v: %v: error %d", f, a, e)
		}
	}
	some := []int{1, 2, 3, 4, 8, 9, 10, 11, 12}
	for range 4000 {
		f := madeUp(r, 1+r.Intn(6), 1+r.Intn(12))
		a := api.Alloc{Where: make([]int, f.Temps), Slots: 3 + r.Intn(3)}
		for i := range a.Where {
			a.Where[i] = some[r.Intn(len(some))]
		}
		want(f, a)
		a, _ = alloc.Alloc(f)
		for range 6 {
			a.Where[r.Intn(f.Temps)] = some[r.Intn(len(some))]
			a.Slots = max(a.Slots, r.Intn(6))
			want(f, a)
		}
	}
	if count[true] < 5000 || count[false] < 5000 {
		t.Errorf("%v", count)
	}
}

// wantRight: of operations over four temps, two of them parameters.
func wantRight(t *testing.T, label string, code []api.Op, right bool, where ...int) {
	t.Helper()
	f := api.Func{Params: 2, Temps: 4, Code: code}
	e := alloc.Check(f, api.Alloc{Where: where, Slots: 8})
	if (e == api.OK) != right || e != api.OK && e != api.ErrArg {
		t.Errorf("P21.2: %s: %v: error %d", label, where, e)
	}
}

func TestRules(t *testing.T) {
	sum := []api.Op{constant(2), constant(3), add(2, 2, 3), show(2), back(0)}
	wantRight(t, "unlike", sum, true, 1, 2, 3, 4)
	wantRight(t, "a parameter that is read no more", sum, true, 1, 2, 3, 2)
	wantRight(t, "a parameter that is read still", sum, false, 1, 2, 3, 1)
	wantRight(t, "both sides", sum, false, 1, 2, 3, 3)
	wantRight(t, "two parameters, one of which nobody reads", sum, false, 1, 1, 3, 4)
	wantRight(t, "nobody reads what is written", []api.Op{constant(2), back(0)}, false, 1, 2, 1, 1)
	wantRight(t, "nobody reads it, and it is alone there", []api.Op{constant(2), back(0)}, true, 1, 2, 2, 2)
	wantRight(t, "a copy", []api.Op{copied(2, 0), show(0), show(2), back(0)}, true, 1, 2, 1, 1)
	wantRight(t, "a copy that is changed", []api.Op{copied(2, 0), add(2, 2, 2), show(0), back(2)}, false, 1, 2, 1, 1)
	wantRight(t, "what was copied is changed", []api.Op{copied(2, 0), add(0, 2, 2), show(0), back(2)}, false, 1, 2, 1, 1)
	wantRight(t, "it is changed when the copy is read no more", []api.Op{copied(2, 0), show(2), add(0, 0, 0), back(0)}, true, 1, 2, 1, 1)
	wantRight(t, "a copy onto another one", []api.Op{copied(2, 0), show(1), back(2)}, false, 1, 2, 2, 1)
	wantRight(t, "a copy of itself", []api.Op{copied(0, 0), show(1), back(0)}, true, 1, 2, 1, 1)
	wantRight(t, "B of a copy counts for nothing", []api.Op{{Op: api.OpCopy, D: 2, A: 0, B: 1}, show(1), back(2)}, false, 1, 2, 2, 1)
	wantRight(t, "what is read at first", []api.Op{show(2), back(3)}, true, 1, 2, 3, 4)
	wantRight(t, "what is read at first in a parameter's place", []api.Op{show(2), back(3)}, false, 1, 2, 3, 2)
	wantRight(t, "two that are read at first", []api.Op{show(2), back(3)}, false, 1, 2, 8, 8)
	wantRight(t, "what is written ahead", []api.Op{constant(3), show(3), constant(2), back(2)}, true, 1, 2, 1, 1)
	for _, o := range []api.Op{call(-1), get(-1), put(-1, 1), acq, rel} {
		wantRight(t, "a register over a call", []api.Op{o, back(0)}, false, 1, 8, 2, 3)
		wantRight(t, "a slot over a call", []api.Op{o, back(0)}, true, 8, 1, 2, 3)
	}
	for _, o := range []api.Op{call(0, 0), get(0), put(0, 0)} {
		wantRight(t, "an answer", []api.Op{o, back(0)}, true, 1, 8, 2, 3)
		wantRight(t, "an answer onto a slot that is read", []api.Op{o, show(1), back(0)}, false, 8, 8, 2, 3)
	}
}

func TestPlaces(t *testing.T) {
	f := api.Func{Temps: 2, Code: []api.Op{end}}
	for _, c := range []struct {
		a     api.Alloc
		right bool
	}{
		{api.Alloc{}, false}, {api.Alloc{Where: []int{1}}, false}, {api.Alloc{Where: []int{1, 1}}, true}, {api.Alloc{Where: []int{1, 1, 1}}, false},
		{api.Alloc{Where: []int{1, 4}}, true}, {api.Alloc{Where: []int{0, 1}}, false}, {api.Alloc{Where: []int{-1, 1}}, false}, {api.Alloc{Where: []int{1, 5}, Slots: 400}, false}, {api.Alloc{Where: []int{6, 1}, Slots: 400}, false}, {api.Alloc{Where: []int{7, 1}, Slots: 400}, false},
		{api.Alloc{Where: []int{8, 1}}, false}, {api.Alloc{Where: []int{8, 1}, Slots: 1}, true}, {api.Alloc{Where: []int{9, 1}, Slots: 1}, false}, {api.Alloc{Where: []int{407, 407}, Slots: 400}, true}, {api.Alloc{Where: []int{408, 1}, Slots: 400}, false},
		{api.Alloc{Where: []int{1, 1}, Slots: 400}, true}, {api.Alloc{Where: []int{1, 1}, Slots: 401}, false}, {api.Alloc{Where: []int{1, 1}, Slots: -1}, false}, {api.Alloc{Where: []int{1, 1}, Slots: math.MaxInt}, false}, {api.Alloc{Where: []int{1, 1}, Slots: math.MinInt}, false},
		{api.Alloc{Where: []int{math.MaxInt, 1}, Slots: math.MaxInt}, false}, {api.Alloc{Where: []int{math.MinInt, 1}, Slots: 8}, false}, {api.Alloc{Where: []int{math.MaxInt, 1}, Slots: 400}, false},
	} {
		if e := alloc.Check(f, c.a); (e == api.OK) != c.right {
			t.Errorf("P21.2: %v: error %d", c.a, e)
		}
	}
	empty := api.Func{Code: []api.Op{end}}
	if a, e := alloc.Alloc(empty); e != api.OK || len(a.Where) != 0 || a.Slots != 0 || alloc.Check(empty, api.Alloc{}) != api.OK || alloc.Check(empty, api.Alloc{Where: []int{}, Slots: 400}) != api.OK {
		t.Errorf("P21.2: no temps: %v, error %d", a, e)
	}
}

// Places stay right, or wrong, when slots change places among themselves, and registers do.
func TestOtherPlaces(t *testing.T) {
	r := rand.New(rand.NewSource(4))
	for range 1500 {
		f := madeUp(r, 1+r.Intn(9), 1+r.Intn(20))
		a, _ := alloc.Alloc(f)
		if r.Intn(2) == 0 {
			a.Where[r.Intn(f.Temps)] = 1 + r.Intn(4)
		}
		was := alloc.Check(f, a)
		registers, slots := r.Perm(4), r.Perm(a.Slots)
		for i, p := range a.Where {
			if p < 8 {
				a.Where[i] = 1 + registers[p-1]
			} else {
				a.Where[i] = 8 + slots[p-8]
			}
		}
		if e := alloc.Check(f, a); e != was {
			t.Fatalf("P21.3: %+v: %v: error %d, it was %d", f, a, e, was)
		}
	}
}

func copyOf(f api.Func) api.Func {
	f.Code = slices.Clone(f.Code)
	for i := range f.Code {
		f.Code[i].Args = slices.Clone(f.Code[i].Args)
	}
	return f
}

func spoil(l []int) {
	for i := range l[:cap(l)] {
		l[:cap(l)][i] = -99
	}
}

// What is handed in stays as it is; what is answered is new, each of its lists, and the same each time.
func TestNewMemory(t *testing.T) {
	r := rand.New(rand.NewSource(5))
	for range 300 {
		f := madeUp(r, 1+r.Intn(9), 1+r.Intn(20))
		was := copyOf(f)
		behind, first, _ := alloc.Live(f)
		a, _ := alloc.Alloc(f)
		wantBehind, wantFirst, _ := alloc.Live(was)
		wantPlaces, _ := alloc.Alloc(was)
		if !reflect.DeepEqual(behind, wantBehind) || !reflect.DeepEqual(first, wantFirst) || !reflect.DeepEqual(a, wantPlaces) {
			t.Fatalf("R6: %+v", f)
		}
		places := slices.Clone(a.Where)
		if alloc.Check(f, a); !slices.Equal(a.Where, places) || !reflect.DeepEqual(f, was) {
			t.Fatalf("R5: %+v became %+v", was, f)
		}
		for at := range behind {
			spoil(behind[at])
			behind[at] = nil
			for later := at + 1; later < len(behind); later++ {
				if !slices.Equal(behind[later], wantBehind[later]) {
					t.Fatalf("R5: lists %d and %d are shared", at, later)
				}
			}
		}
		clear(behind[:cap(behind)])
		if !slices.Equal(first, wantFirst) || !slices.Equal(a.Where, places) {
			t.Fatalf("R5: lists are shared: %v, %v", first, a)
		}
		spoil(first)
		spoil(a.Where)
		behind, first, _ = alloc.Live(f)
		if a, _ = alloc.Alloc(f); !reflect.DeepEqual(behind, wantBehind) || !reflect.DeepEqual(first, wantFirst) || !reflect.DeepEqual(a, wantPlaces) || !reflect.DeepEqual(f, was) {
			t.Fatalf("R5: what was answered is kept: %+v", f)
		}
	}
}

// The largest functions, of shapes that might take long, or need all slots.
func TestLarge(t *testing.T) {
	const n, temps = api.MaxOps, api.MaxTemps
	r := rand.New(rand.NewSource(6))
	for label, shape := range map[string]func(i int) api.Op{
		"all are live": func(i int) api.Op { return add(i%temps, (i+1)%temps, (i+2)%temps) },
		"over calls":   func(i int) api.Op { return call(i%temps, (i+1)%temps, (i+2)%temps) },
		"copies":       func(i int) api.Op { return copied((i+1)%temps, i%temps) },
		"back":         func(i int) api.Op { return []api.Op{add(i%temps, i%temps, 0), unless(i%temps, max(0, i-500))}[i%2] },
		"ahead":        func(i int) api.Op { return []api.Op{show(i % temps), jump((i + 7000) % n)}[i%2] },
		"blocks back": func(i int) api.Op {
			if i < 2 {
				return []api.Op{jump(n - 2), end}[i]
			}
			return []api.Op{show(i / 2 % temps), jump(max(1, i-3))}[i%2]
		},
		"one by one": func(i int) api.Op { return []api.Op{unless(i/50%temps, max(0, i-1)), jump(i + 1)}[i%2] },
		"anything":   func(i int) api.Op { return madeUp(r, temps, 2).Code[0] },
	} {
		f := api.Func{Name: "t", Params: 4, Temps: temps}
		for i := range n - 1 {
			o := shape(i)
			if one(o.Op, api.OpJump, api.OpIf) && label == "anything" {
				o.To = r.Intn(n)
			}
			f.Code = append(f.Code, o)
		}
		f.Code = append(f.Code, end)
		a, e := alloc.Alloc(f)
		if e != api.OK || alloc.Check(f, a) != api.OK {
			t.Errorf("P21.2: %s: error %d", label, e)
		}
		behind, _, e := alloc.Live(f)
		if e != api.OK || len(behind) != n {
			t.Errorf("P21.1: %s: error %d", label, e)
		}
	}
}

// Registers come ahead of slots: few temps need no slot.
func TestRegistersFirst(t *testing.T) {
	f := api.Func{Temps: 6, Code: []api.Op{constant(0), constant(1), constant(2), constant(3), add(4, 0, 1), add(5, 2, 3), add(0, 4, 5), back(0)}}
	if a, e := alloc.Alloc(f); e != api.OK || a.Slots != 0 {
		t.Errorf("%v, error %d", a, e)
	}
}
