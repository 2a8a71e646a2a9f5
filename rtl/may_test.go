package rtl_test

import (
	"math"
	"math/rand"
	"slices"
	"strings"
	"testing"

	"cotter/api"
	"cotter/check"
	"cotter/parse"
	"cotter/rtl"
)

// The calls have the types that the chapter lists.
var (
	_ func([]api.Module, []api.Func) api.Errno                       = rtl.Check
	_ func([]api.Module, []api.Func) (*rtl.Machine, api.Errno)       = rtl.New
	_ func([]api.Module, []api.Func, []int) ([]api.Event, api.Errno) = rtl.Run
)

func reads(t *testing.T, sources ...string) []api.Module {
	t.Helper()
	var l []api.Module
	for _, s := range sources {
		m, e := parse.Parse(s)
		if e != api.OK {
			t.Fatalf("%.300q: error %d", s, e)
		}
		l = append(l, m)
	}
	return l
}

// two modules that go together: one of each, and each of them needs some of the other one's.
var front = []string{
	"lock l; extern ticket k; queue q 2; extern queue r 1; int x by l; extern int y by k; int a[3] by l; extern int b[1] by k; int f0() rank 0 { } int f1(p) rank 1 { } int f2(p, s) with l rank 5 { } extern int g5(4) rank 5; thread t { } int f9() rank 9 { }",
	"ticket k; queue r 1; int y by k; int b[1] by k; int g5(p, s, v, w) rank 5 { } extern lock l; thread u { } extern int f1(1) rank 1;",
}

// their names, in no order of theirs.
var names = []string{"u", "f0", "f9", "g5", "t", "f2", "f1"}

var (
	params = map[string]int{"f1": 1, "f2": 2, "g5": 4}
	ranks  = map[string]int{"f0": 0, "f1": 1, "f2": 5, "f9": 9, "g5": 5, "t": 10, "u": 10}
	arrays = map[string]int{"x": 0, "y": 0, "a": 3, "b": 1}
)

func isThread(name string) bool { return name == "t" || name == "u" }

// last is what a body may end with.
func last(name string) api.Op {
	if isThread(name) {
		return api.Op{Op: api.OpEnd}
	}
	return api.Op{Op: api.OpRet}
}

// plain are functions that are those modules'; the one of that name has operations more.
func plain(name string, l ...api.Op) []api.Func {
	var all []api.Func
	for _, n := range names {
		f := api.Func{Name: n, Params: params[n], Temps: 5, Code: []api.Op{last(n)}}
		if n == name {
			f.Code = append(slices.Clone(l), f.Code...)
		}
		all = append(all, f)
	}
	return all
}

func wantCheck(t *testing.T, l []api.Module, f []api.Func, want api.Errno) {
	t.Helper()
	for range 2 {
		if e := rtl.Check(l, f); e != want {
			t.Errorf("P18.1: %+v: error %d; want %d", f, e, want)
		}
	}
	m, e := rtl.New(l, f)
	if e != want || (m == nil) != (want != api.OK) {
		t.Errorf("P18.1: New of %+v: error %d; want %d", f, e, want)
	}
	if m == nil {
		wantNothing(t, m)
	}
	if events, e := rtl.Run(l, f, nil); e != want || len(events) != 0 {
		t.Errorf("P18.2: Run of %+v: %v, error %d; want %d", f, events, e, want)
	}
}

// wantNothing: what New answers beside an error does nothing.
func wantNothing(t *testing.T, m *rtl.Machine) {
	t.Helper()
	if m.Do(0) || m.Do(-1) || m.Do(math.MinInt) || len(m.Events()) != 0 || len(m.Acts()) != 0 {
		t.Error("R1: no machine goes on")
	}
}

func TestFitErrors(t *testing.T) {
	right := []api.Func{{Name: "t", Code: []api.Op{{Op: api.OpEnd}}}}
	wantCheck(t, reads(t, "thread t { }"), right, api.OK)
	for _, c := range []struct {
		want    api.Errno
		sources []string
	}{
		{api.ErrLarge, nil},
		{api.ErrLarge, []string{"lock l;"}},
		{api.ErrLarge, []string{"thread t { } thread b { } thread c { } thread d { } thread e { }"}},
		{api.ErrUndefined, []string{"extern lock l; thread t { }"}},
		{api.ErrInterface, []string{"extern lock l; thread t { }", "queue l 1;"}},
		{api.ErrDuplicate, []string{"lock l; thread t { }", "lock l;"}},
		{api.ErrType, []string{"thread t { x = 1; }"}},
		{api.ErrArg, []string{"thread t { }", "", "", "", "", "", "", "", ""}},
	} {
		l := reads(t, c.sources...)
		if e := check.Fit(l...); e != c.want {
			t.Fatalf("%q: error %d", c.sources, e)
		}
		wantCheck(t, l, right, c.want)
		wantCheck(t, l, nil, c.want) // ahead of what is wrong with the functions
	}
	wantCheck(t, []api.Module{{Exps: []api.Exp{{}}}}, right, api.ErrArg)
}

// There is just one function for each that is given, under its name, and no other one.
func TestNames(t *testing.T) {
	l := reads(t, front...)
	all := plain("")
	wantCheck(t, l, all, api.OK)
	wantCheck(t, l, nil, api.ErrArg)
	wantCheck(t, l, []api.Func{}, api.ErrArg)
	for i, f := range all {
		wantCheck(t, l, slices.Delete(slices.Clone(all), i, i+1), api.ErrArg)
		wantCheck(t, l, append(slices.Clone(all), f), api.ErrArg)
		other := slices.Clone(all)
		other[i] = all[(i+1)%len(all)]
		wantCheck(t, l, other, api.ErrArg)
		for _, name := range []string{"", "l", "k", "q", "x", "a", "none", "p", "T", f.Name + " "} {
			f.Name = name
			wantCheck(t, l, append(slices.Clone(all), f), api.ErrArg)
			other[i] = f
			wantCheck(t, l, other, api.ErrArg)
		}
	}
	r := rand.New(rand.NewSource(1))
	for range 20 { // in any order
		r.Shuffle(len(all), func(i, j int) { all[i], all[j] = all[j], all[i] })
		wantCheck(t, l, all, api.OK)
	}
	slices.Reverse(l)
	wantCheck(t, l, all, api.OK)
}

func TestParamsAndTemps(t *testing.T) {
	l := reads(t, front...)
	for i, name := range names {
		for _, n := range []int{math.MinInt, -1, 0, 1, 2, 3, 4, 5, math.MaxInt} {
			all := plain("")
			all[i].Params = n
			want := api.ErrArg
			if n == params[name] {
				want = api.OK
			}
			wantCheck(t, l, all, want)
		}
		for _, n := range []int{math.MinInt, -1, 0, 1, 2, 3, 4, 5, 399, 400, 401, math.MaxInt} {
			all := plain("")
			all[i].Temps = n
			all[i].Code = []api.Op{{Op: api.OpJump}} // it needs no temps
			want := api.ErrArg
			if n >= params[name] && n <= 400 {
				want = api.OK
			}
			wantCheck(t, l, all, want)
		}
	}
}

func TestOperations(t *testing.T) {
	l := reads(t, front...)
	for i, name := range names {
		for n, want := range map[int]api.Errno{0: api.ErrArg, 1: api.OK, 2: api.OK, 19999: api.OK, 20000: api.OK, 20001: api.ErrArg, 100000: api.ErrArg} {
			all := plain("")
			all[i].Code = make([]api.Op, n)
			for k := range all[i].Code {
				all[i].Code[k] = api.Op{Op: api.OpJump, To: n - 1}
			}
			if e := rtl.Check(l, all); e != want {
				t.Errorf("P18.1: %s with %d operations: error %d; want %d", name, n, e, want)
			}
		}
		// The last one is one behind which none comes.
		for op := -1; op <= 18; op++ {
			o := api.Op{Op: op, What: api.ADD, N: 1, A: 0}
			switch op {
			case api.OpLoad, api.OpStore:
				o.Name = "a"
			case api.OpCall:
				o.Name = "f0"
			case api.OpGet, api.OpPut:
				o.Name = "q"
			case api.OpAcq, api.OpRel:
				o.Name = "l"
			}
			all := plain("")
			all[i].Code = []api.Op{o}
			want := api.ErrArg
			if op == api.OpJump || op == api.OpTrap || op == last(name).Op {
				want = api.OK
			}
			wantCheck(t, l, all, want)
			all[i].Code = []api.Op{{Op: api.OpTrap, N: 1}, o}
			wantCheck(t, l, all, want)
		}
	}
}

// needs is the chapter's table: what each operation has. What is not named counts for nothing.
var needs = map[int]string{
	api.OpConst: "D", api.OpCopy: "D A", api.OpBin: "D A B what", api.OpLoad: "D global", api.OpStore: "global B", api.OpCall: "answer function", api.OpGet: "answer queue", api.OpPut: "answer queue B",
	api.OpAcq: "lock", api.OpRel: "lock", api.OpJump: "To", api.OpIf: "A To", api.OpPrint: "A", api.OpRet: "A infunction", api.OpEnd: "inthread", api.OpTrap: "trap",
}

// modelMay holds an operation of a body with 5 temps and that many operations against the table.
func modelMay(name string, o api.Op, ops int) bool {
	need, ok := needs[o.Op]
	temp := func(n int) bool { return 0 <= n && n < 5 }
	for _, what := range strings.Fields(need) {
		switch what {
		case "D":
			ok = ok && temp(o.D)
		case "A":
			ok = ok && temp(o.A)
		case "B":
			ok = ok && temp(o.B)
		case "what":
			ok = ok && 3 <= o.What && o.What <= 16
		case "global":
			n, is := arrays[o.Name]
			ok = ok && is && (n == 0 && o.A == -1 || n > 0 && temp(o.A))
		case "answer":
			ok = ok && (o.D == -1 || temp(o.D))
		case "function":
			rank, is := ranks[o.Name]
			ok = ok && is && !isThread(o.Name) && rank < ranks[name] && len(o.Args) == params[o.Name]
			for _, a := range o.Args {
				ok = ok && temp(a)
			}
		case "queue":
			ok = ok && (o.Name == "q" || o.Name == "r")
		case "lock":
			ok = ok && (o.Name == "l" || o.Name == "k")
		case "To":
			ok = ok && 0 <= o.To && o.To < ops
		case "infunction":
			ok = ok && !isThread(name)
		case "inthread":
			ok = ok && isThread(name)
		case "trap":
			ok = ok && 1 <= o.N && o.N <= 127
		}
	}
	return ok
}

var edges = []int{math.MinInt, -2, -1, 0, 1, 4, 5, 6, 400, math.MaxInt}

var someNames = []string{"", "l", "k", "q", "r", "x", "y", "a", "b", "f0", "f1", "f2", "f9", "g5", "t", "u", "none", "p", "L"}

// Each field of each operation at its edges, whatever the others are.
func TestFields(t *testing.T) {
	l := reads(t, front...)
	r := rand.New(rand.NewSource(2))
	count := map[bool]int{}
	try := func(o api.Op) {
		name := names[r.Intn(len(names))]
		want := api.ErrArg
		if modelMay(name, o, 3) {
			want = api.OK
		}
		count[want == api.OK]++
		for _, code := range [][]api.Op{{o, {Op: api.OpCopy}}, {{Op: api.OpPrint}, o}} {
			if e := rtl.Check(l, plain(name, code...)); e != want {
				t.Fatalf("P18.1: %s: %+v: error %d; want %d", name, o, e, want)
			}
		}
	}
	some := func() int { return edges[r.Intn(len(edges))] }
	right := func() int { return r.Intn(5) }
	for op := -1; op <= 18; op++ {
		for range 700 {
			o := api.Op{Op: op, D: right(), A: right(), B: right(), What: 3 + r.Intn(14), N: int64(1 + r.Intn(127)), To: r.Intn(3), Name: someNames[r.Intn(len(someNames))]}
			for range params[o.Name] {
				o.Args = append(o.Args, right())
			}
			if arrays[o.Name] == 0 && r.Intn(2) == 0 {
				o.A = -1
			}
			try(o)
			switch r.Intn(9) {
			case 0:
				o.D = some()
			case 1:
				o.A = some()
			case 2:
				o.B = some()
			case 3:
				o.To = []int{math.MinInt, -1, 0, 2, 3, 4, math.MaxInt}[r.Intn(7)]
			case 4:
				o.What = []int{math.MinInt, -1, 0, 1, 2, 3, 16, 17, 18, math.MaxInt}[r.Intn(10)]
			case 5:
				o.N = []int64{math.MinInt64, -1, 0, 1, 127, 128, math.MaxInt64}[r.Intn(7)]
			case 6:
				o.Args = append(slices.Clone(o.Args), right())
			case 7:
				if len(o.Args) > 0 {
					o.Args = slices.Clone(o.Args)
					o.Args[r.Intn(len(o.Args))] = some()
				}
			case 8:
				if len(o.Args) > 0 {
					o.Args = o.Args[1:]
				}
			}
			try(o)
		}
	}
	if count[true] < 3000 || count[false] < 3000 {
		t.Errorf("%v", count)
	}
}

// What the table does not name counts for nothing, however wrong it is.
func TestUnnamedFields(t *testing.T) {
	l := reads(t, front...)
	junk := func(op int, set func(o *api.Op)) api.Op {
		o := api.Op{Op: op, What: -9, Name: "none", D: -7, A: 1 << 40, B: -3, N: -4, Args: []int{-1, 99}, To: -5}
		set(&o)
		return o
	}
	for _, c := range []struct {
		name string
		o    api.Op
	}{
		{"t", junk(api.OpConst, func(o *api.Op) { o.D = 4 })},
		{"t", junk(api.OpCopy, func(o *api.Op) { o.D, o.A = 4, 0 })},
		{"t", junk(api.OpBin, func(o *api.Op) { o.D, o.A, o.B, o.What = 4, 0, 3, api.ADD })},
		{"t", junk(api.OpLoad, func(o *api.Op) { o.D, o.A, o.Name = 4, -1, "x" })},
		{"t", junk(api.OpStore, func(o *api.Op) { o.A, o.B, o.Name = 4, 0, "b" })},
		{"t", junk(api.OpCall, func(o *api.Op) { o.D, o.Name, o.Args = -1, "f0", nil })},
		{"t", junk(api.OpGet, func(o *api.Op) { o.D, o.Name = -1, "q" })},
		{"t", junk(api.OpPut, func(o *api.Op) { o.D, o.B, o.Name = -1, 0, "r" })},
		{"t", junk(api.OpAcq, func(o *api.Op) { o.Name = "l" })},
		{"t", junk(api.OpRel, func(o *api.Op) { o.Name = "k" })},
		{"t", junk(api.OpJump, func(o *api.Op) { o.To = 1 })},
		{"t", junk(api.OpIf, func(o *api.Op) { o.A, o.To = 0, 0 })},
		{"t", junk(api.OpPrint, func(o *api.Op) { o.A = 4 })},
		{"f0", junk(api.OpRet, func(o *api.Op) { o.A = 4 })},
		{"t", junk(api.OpEnd, func(o *api.Op) {})},
		{"f9", junk(api.OpTrap, func(o *api.Op) { o.N = 127 })},
	} {
		wantCheck(t, l, plain(c.name, c.o), api.OK)
	}
}

// A function calls those of lesser ranks alone, a thread all.
func TestRanks(t *testing.T) {
	l := reads(t, front...)
	for _, caller := range names {
		for _, called := range names {
			want := api.ErrArg
			if !isThread(called) && ranks[called] < ranks[caller] {
				want = api.OK
			}
			wantCheck(t, l, plain(caller, api.Op{Op: api.OpCall, Name: called, Args: make([]int, params[called])}), want)
		}
	}
}
