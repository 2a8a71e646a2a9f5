package flow_test

import (
	"math/rand"
	"reflect"
	"slices"
	"testing"

	"cotter/api"
	"cotter/flow"
)

// full has something in each field.
func full(op int) api.Op {
	return api.Op{Op: op, What: api.DIV, Name: "n", D: 1, A: 2, B: 3, N: 4, Args: []int{5, 6}, To: 7}
}

// table is what chapter 18 says that operations have, and chapter 21 which temps they write and read, and what comes behind them.
var table = []struct {
	plain api.Op
	write int
	reads []int
	falls bool
	leads bool
}{
	{api.Op{}, -1, nil, true, false},
	{api.Op{Op: api.OpConst, D: 1, N: 4}, 1, nil, true, false},
	{api.Op{Op: api.OpCopy, D: 1, A: 2}, 1, []int{2}, true, false},
	{api.Op{Op: api.OpBin, D: 1, A: 2, B: 3, What: api.DIV}, 1, []int{2, 3}, true, false},
	{api.Op{Op: api.OpLoad, D: 1, A: 2, Name: "n"}, 1, []int{2}, true, false},
	{api.Op{Op: api.OpStore, A: 2, B: 3, Name: "n"}, -1, []int{2, 3}, true, false},
	{api.Op{Op: api.OpCall, D: 1, Name: "n", Args: []int{5, 6}}, 1, []int{5, 6}, true, false},
	{api.Op{Op: api.OpGet, D: 1, Name: "n"}, 1, nil, true, false},
	{api.Op{Op: api.OpPut, D: 1, B: 3, Name: "n"}, 1, []int{3}, true, false},
	{api.Op{Op: api.OpAcq, Name: "n"}, -1, nil, true, false},
	{api.Op{Op: api.OpRel, Name: "n"}, -1, nil, true, false},
	{api.Op{Op: api.OpJump, To: 7}, -1, nil, false, true},
	{api.Op{Op: api.OpIf, A: 2, To: 7}, -1, []int{2}, true, true},
	{api.Op{Op: api.OpPrint, A: 2}, -1, []int{2}, true, false},
	{api.Op{Op: api.OpRet, A: 2}, -1, []int{2}, false, false},
	{api.Op{Op: api.OpEnd}, -1, nil, false, false},
	{api.Op{Op: api.OpTrap, N: 4}, -1, nil, false, false},
}

func TestOperations(t *testing.T) {
	for op, want := range table {
		o := full(op)
		plain := flow.Plain(o)
		if !reflect.DeepEqual(plain, want.plain) {
			t.Errorf("%d: Plain %+v", op, plain)
		}
		if len(plain.Args) > 0 && &plain.Args[0] == &o.Args[0] {
			t.Errorf("%d: Plain shares its list", op)
		}
		if d := flow.Writes(o); d != want.write {
			t.Errorf("%d: Writes %d", op, d)
		}
		if l := slices.Collect(flow.Reads(o)); !slices.Equal(l, want.reads) {
			t.Errorf("%d: Reads %v", op, l)
		}
		if flow.Falls(o) != want.falls || flow.Leads(o) != want.leads {
			t.Errorf("%d: Falls %v, Leads %v", op, flow.Falls(o), flow.Leads(o))
		}
		for n := range want.reads { // one may stop anywhere
			var l []int
			for r := range flow.Reads(o) {
				if l = append(l, r); len(l) > n {
					break
				}
			}
			if !slices.Equal(l, want.reads[:n+1]) {
				t.Errorf("%d: Reads, left: %v", op, l)
			}
		}
	}
	for _, op := range []int{api.OpLoad, api.OpStore} {
		o := full(op)
		o.A = -1
		if slices.Contains(slices.Collect(flow.Reads(o)), -1) || flow.Turn(o, func(int) int { return 9 }).A != -1 {
			t.Errorf("%d: -1 is read", op)
		}
	}
	for _, op := range []int{api.OpCall, api.OpGet, api.OpPut} {
		o := full(op)
		o.D = -1
		if flow.Writes(o) != -1 {
			t.Errorf("%d: Writes %d", op, flow.Writes(o))
		}
	}
}

// Turn changes what is read, and nothing else.
func TestTurn(t *testing.T) {
	for op := range table {
		o := full(op)
		turned := flow.Turn(o, func(t int) int { return t + 100 })
		if !reflect.DeepEqual(o, full(op)) {
			t.Errorf("%d: what was handed in is %+v", op, o)
		}
		var want []int
		for r := range flow.Reads(o) {
			want = append(want, r+100)
		}
		if l := slices.Collect(flow.Reads(turned)); !slices.Equal(l, want) {
			t.Errorf("%d: %v", op, l)
		}
		if back := flow.Turn(turned, func(t int) int { return t - 100 }); !reflect.DeepEqual(back, o) {
			t.Errorf("%d: %+v", op, back)
		}
	}
}

func TestNext(t *testing.T) {
	for op, row := range table {
		code := []api.Op{{}, full(op), {}}
		var want []int
		if row.falls {
			want = append(want, 2)
		}
		if row.leads {
			want = append(want, 7)
		}
		if l := slices.Collect(flow.Next(code, 1)); !slices.Equal(l, want) {
			t.Errorf("%d: %v", op, l)
		}
		for i := range flow.Next(code, 1) {
			if i != want[0] {
				t.Errorf("%d: %d", op, i)
			}
			break
		}
	}
}

func TestMayBe(t *testing.T) {
	right := api.Func{Params: 1, Temps: 2, Code: []api.Op{{Op: api.OpPrint, A: 1}, {Op: api.OpEnd}}}
	if !flow.MayBe(right) {
		t.Error("it may be")
	}
	for i, change := range []func(f *api.Func){
		func(f *api.Func) { f.Params = -1 },
		func(f *api.Func) { f.Params = 3 },
		func(f *api.Func) { f.Temps = 401 },
		func(f *api.Func) { f.Code = nil },
		func(f *api.Func) { f.Code = make([]api.Op, 20001) },
		func(f *api.Func) { f.Code = f.Code[:1] },
		func(f *api.Func) { f.Code = append([]api.Op{{}}, f.Code...) },
		func(f *api.Func) { f.Code = append([]api.Op{{Op: 17}}, f.Code...) },
		func(f *api.Func) { f.Code = append([]api.Op{{Op: -1}}, f.Code...) },
		func(f *api.Func) { f.Code = append([]api.Op{{Op: api.OpPrint, A: 2}}, f.Code...) },
		func(f *api.Func) { f.Code = append([]api.Op{{Op: api.OpPrint, A: -1}}, f.Code...) },
		func(f *api.Func) { f.Code = append([]api.Op{{Op: api.OpCall, D: -1, Args: []int{0, 2}}}, f.Code...) },
		func(f *api.Func) { f.Code = append([]api.Op{{Op: api.OpJump, To: 3}}, f.Code...) },
		func(f *api.Func) { f.Code = append([]api.Op{{Op: api.OpTrap}}, f.Code...) },
		func(f *api.Func) { f.Code = append([]api.Op{{Op: api.OpBin, What: api.MOV}}, f.Code...) },
	} {
		f := right
		if change(&f); flow.MayBe(f) {
			t.Errorf("case %d: %+v", i, f)
		}
	}
}

func TestSet(t *testing.T) {
	var s, other flow.Set
	for _, n := range []int{0, 63, 64, 399} {
		s.Add(n)
	}
	other.Add(5)
	other.Add(64)
	s.Join(other)
	s.Remove(63)
	s.Remove(7)
	for n := range api.MaxTemps {
		if s.Has(n) != slices.Contains([]int{0, 5, 64, 399}, n) {
			t.Errorf("%d: %v", n, s.Has(n))
		}
	}
	if l := slices.Collect(s.All()); !slices.Equal(l, []int{0, 5, 64, 399}) {
		t.Errorf("All: %v", l)
	}
	for n := range s.All() { // one may stop anywhere
		if n == 5 {
			break
		}
		if n > 5 {
			t.Errorf("All, left: %d", n)
		}
	}
}

// modelLive follows all ways from a place on.
func modelLive(code []api.Op, at, temp int, seen map[int]bool) bool {
	if seen[at] {
		return false
	}
	seen[at] = true
	o := code[at]
	if slices.Contains(slices.Collect(flow.Reads(o)), temp) {
		return true
	}
	if flow.Writes(o) == temp {
		return false
	}
	for i := range flow.Next(code, at) {
		if modelLive(code, i, temp, seen) {
			return true
		}
	}
	return false
}

// Lives are as one finds them by following all ways, if all that is read counts.
func TestLives(t *testing.T) {
	r := rand.New(rand.NewSource(3))
	for range 500 {
		n := 2 + r.Intn(14)
		code := make([]api.Op, n)
		for i := range code {
			code[i] = api.Op{Op: 1 + r.Intn(16), D: r.Intn(5), A: r.Intn(5), B: r.Intn(5), Args: []int{r.Intn(5)}, To: r.Intn(n)}
		}
		code[n-1].Op = api.OpJump
		ahead := flow.Lives(code, func(api.Op, flow.Set) bool { return true })
		for at := range code {
			behind := flow.Behind(code, ahead, at)
			for temp := range 6 {
				if ahead[at].Has(temp) != modelLive(code, at, temp, map[int]bool{}) {
					t.Fatalf("%+v: temp %d ahead of %d", code, temp, at)
				}
				want := false
				for i := range flow.Next(code, at) {
					want = want || modelLive(code, i, temp, map[int]bool{})
				}
				if behind.Has(temp) != want {
					t.Fatalf("%+v: temp %d behind %d", code, temp, at)
				}
			}
		}
	}
}

// What does not count makes nothing live.
func TestCounts(t *testing.T) {
	code := []api.Op{{Op: api.OpBin, D: 0, A: 0, B: 1}, {Op: api.OpIf, A: 2, To: 0}, {Op: api.OpCopy, D: 3, A: 4}, {Op: api.OpRet, A: 3}}
	ahead := flow.Lives(code, func(o api.Op, behind flow.Set) bool { return flow.Writes(o) == -1 || behind.Has(o.D) })
	var want flow.Set
	want.Add(2)
	want.Add(4)
	if ahead[0] != want {
		t.Errorf("%v; want %v", ahead[0], want)
	}
}
