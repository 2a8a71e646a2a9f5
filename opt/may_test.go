package opt_test

import (
	"math"
	"math/rand"
	"reflect"
	"slices"
	"strings"
	"testing"

	"cotter/api"
	"cotter/opt"
)

// The call has the type that the chapter lists.
var _ func(api.Func) (api.Func, api.Errno) = opt.Opt

// has is the chapter's table: the fields of each operation. What is not named counts for nothing.
var has = map[int]string{
	api.OpConst: "D N", api.OpCopy: "D A", api.OpBin: "D A B What", api.OpLoad: "D A Name", api.OpStore: "A B Name", api.OpCall: "D Name Args", api.OpGet: "D Name", api.OpPut: "D B Name",
	api.OpAcq: "Name", api.OpRel: "Name", api.OpJump: "To", api.OpIf: "A To", api.OpPrint: "A", api.OpRet: "A", api.OpEnd: "", api.OpTrap: "N",
}

// modelMayDo holds an operation against the table, but for what hangs on names.
func modelMayDo(o api.Op, temps, ops int) bool {
	fields, ok := has[o.Op]
	temp := func(n int, orNone bool) bool { return 0 <= n && n < temps || orNone && n == -1 }
	for _, name := range strings.Fields(fields) {
		switch name {
		case "D":
			ok = ok && temp(o.D, o.Op == api.OpCall || o.Op == api.OpGet || o.Op == api.OpPut)
		case "A":
			ok = ok && temp(o.A, o.Op == api.OpLoad || o.Op == api.OpStore)
		case "B":
			ok = ok && temp(o.B, false)
		case "What":
			ok = ok && 3 <= o.What && o.What <= 16
		case "Args":
			for _, a := range o.Args {
				ok = ok && temp(a, false)
			}
		case "To":
			ok = ok && 0 <= o.To && o.To < ops
		case "N":
			ok = ok && (o.Op == api.OpConst || 1 <= o.N && o.N <= 127)
		}
	}
	return ok
}

func modelMayBe(f api.Func) bool {
	n := len(f.Code)
	if f.Params < 0 || f.Params > f.Temps || f.Temps > 400 || n < 1 || n > 20000 {
		return false
	}
	for _, o := range f.Code {
		if !modelMayDo(o, f.Temps, n) {
			return false
		}
	}
	return slices.Contains([]int{api.OpJump, api.OpRet, api.OpEnd, api.OpTrap}, f.Code[n-1].Op)
}

// made is Opt's answer, held against all that P20.1 says of it.
func made(t *testing.T, f api.Func) api.Func {
	t.Helper()
	g, e := opt.Opt(f)
	if !modelMayBe(f) {
		if e != api.ErrArg || !reflect.DeepEqual(g, api.Func{}) {
			t.Fatalf("P20.1: %.500v: %v, error %d; want ErrArg", f, g, e)
		}
		return g
	}
	if e != api.OK || g.Name != f.Name || g.Params != f.Params || len(g.Code) > len(f.Code) || !modelMayBe(g) {
		t.Fatalf("P20.1: %.500v: %.500v, error %d", f, g, e)
	}
	return g
}

var edges = []int{math.MinInt, -2, -1, 0, 1, 4, 5, 6, 400, math.MaxInt}

// Each field of each operation at its edges, whatever the others are; names count for nothing.
func TestFields(t *testing.T) {
	r := rand.New(rand.NewSource(1))
	count := map[bool]int{}
	try := func(o api.Op) {
		for _, code := range [][]api.Op{{o, {Op: api.OpPrint}, {Op: api.OpEnd}}, {{Op: api.OpPrint}, {Op: api.OpIf, To: 0}, o}, {{Op: api.OpIf, To: 1}, o, {Op: api.OpRet}}} {
			f := api.Func{Name: []string{"", "t", "no name"}[r.Intn(3)], Params: r.Intn(6), Temps: 5, Code: code}
			count[modelMayBe(f)]++
			made(t, f)
		}
	}
	some := func() int { return edges[r.Intn(len(edges))] }
	right := func() int { return r.Intn(5) }
	for op := -1; op <= 18; op++ {
		for range 700 {
			o := api.Op{Op: op, D: right(), A: right(), B: right(), What: 3 + r.Intn(14), N: int64(1 + r.Intn(127)), To: r.Intn(3), Name: []string{"", "x", "no name"}[r.Intn(3)]}
			for range r.Intn(7) {
				o.Args = append(o.Args, right())
			}
			try(o)
			switch r.Intn(7) {
			case 0:
				o.D = some()
			case 1:
				o.A = some()
			case 2:
				o.B = some()
			case 3:
				o.To = []int{math.MinInt, -1, 0, 2, 3, 4, math.MaxInt}[r.Intn(7)]
			case 4:
				o.What = []int{math.MinInt, -1, 0, 1, 2, 3, 16, 17, 18, math.MaxInt}[r.Intn(10)]
			case 5:
				o.N = []int64{math.MinInt64, -1, 0, 1, 127, 128, math.MaxInt64}[r.Intn(7)]
			case 6:
				o.Args = append(slices.Clone(o.Args), some())
			}
			try(o)
		}
	}
	if count[true] < 10000 || count[false] < 10000 {
		t.Errorf("%v", count)
	}
}

func TestParamsAndTemps(t *testing.T) {
	for _, params := range []int{math.MinInt, -1, 0, 1, 4, 5, 399, 400, 401, math.MaxInt} {
		for _, temps := range []int{math.MinInt, -1, 0, 1, 4, 5, 399, 400, 401, math.MaxInt} {
			made(t, api.Func{Params: params, Temps: temps, Code: []api.Op{{Op: api.OpEnd}}})
			made(t, api.Func{Params: params, Temps: temps, Code: []api.Op{{Op: api.OpPrint, A: max(0, temps-1)}, {Op: api.OpJump}}})
		}
	}
}

func TestLengths(t *testing.T) {
	for _, n := range []int{0, 1, 2, 3, 19999, 20000, 20001, 60000} {
		for op := -1; op <= 18; op++ {
			f := api.Func{Name: "f", Temps: 1, Code: make([]api.Op, n)}
			for i := range f.Code {
				f.Code[i] = api.Op{Op: api.OpPrint}
			}
			if n > 0 {
				f.Code[n-1] = api.Op{Op: op, What: api.ADD, N: 1}
			}
			made(t, f)
		}
	}
}

// What is not named for a kind counts for nothing, and is zero in what is answered.
func TestUnnamedFields(t *testing.T) {
	for op := range has {
		o := api.Op{Op: op, What: -9, Name: "none", D: -7, A: 1 << 40, B: -3, N: -4, Args: []int{-1, 99}, To: -5}
		want := api.Op{Op: op}
		for _, name := range strings.Fields(has[op]) {
			switch name {
			case "D":
				o.D, want.D = 1, 1
			case "A":
				o.A, want.A = 2, 2
			case "B":
				o.B, want.B = 3, 3
			case "What":
				o.What, want.What = api.DIV, api.DIV
			case "Name":
				want.Name = "none"
			case "N":
				o.N, want.N = 5, 5
			case "Args":
				o.Args, want.Args = []int{0, 1, 2}, []int{0, 1, 2}
			case "To":
				o.To = 2
				want.To = 2
			}
		}
		// All of the temps are read behind it, so that it stays as it is.
		f := api.Func{Name: "f", Params: 4, Temps: 4, Code: []api.Op{o, {Op: api.OpPrint, A: 3}, {Op: api.OpPrint, A: 0}, {Op: api.OpCall, D: -1, Args: []int{0, 1, 2, 3}}, {Op: api.OpRet}}}
		g := made(t, f)
		if op == api.OpJump {
			if len(g.Code) != 3 || g.Code[0].Op != api.OpPrint {
				t.Errorf("%+v", g)
			}
			continue
		}
		if op == api.OpCopy { // what is copied is read in place of the copy
			want = api.Op{Op: api.OpPrint, A: 3}
		}
		if !reflect.DeepEqual(g.Code[0], want) {
			t.Errorf("R4: %+v became %+v; want %+v", o, g.Code[0], want)
		}
	}
}
