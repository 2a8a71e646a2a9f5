package alloc_test

import (
	"math"
	"math/rand"
	"slices"
	"testing"

	"cotter/alloc"
	"cotter/api"
)

// The calls have the types that the chapter lists.
var (
	_ func(api.Func) ([][]int, []int, api.Errno) = alloc.Live
	_ func(api.Func) (api.Alloc, api.Errno)      = alloc.Alloc
	_ func(api.Func, api.Alloc) api.Errno        = alloc.Check
)

// own are places that are right for any function: each temp has a slot of its own.
func own(temps int) api.Alloc {
	a := api.Alloc{Slots: max(0, min(temps, 400))}
	for t := range a.Slots {
		a.Where = append(a.Where, 8+t)
	}
	return a
}

// wantMay: each call says ErrArg, and nothing else, just where a function may not be by itself.
func wantMay(t *testing.T, f api.Func) bool {
	t.Helper()
	may, want := modelMayBe(f), api.ErrArg
	if may {
		want = api.OK
	}
	behind, first, e := alloc.Live(f)
	if e != want || may && len(behind) != len(f.Code) || !may && len(behind)+len(first) > 0 {
		t.Fatalf("P21.1, R3: %.500v: %.300v, %v, error %d", f, behind, first, e)
	}
	a, e := alloc.Alloc(f)
	if e != want || may && len(a.Where) != f.Temps || !may && (len(a.Where) > 0 || a.Slots != 0) {
		t.Fatalf("P21.2, R3: %.500v: %v, error %d", f, a, e)
	}
	if may && alloc.Check(f, a) != api.OK {
		t.Fatalf("P21.2: %.500v: %v is not right", f, a)
	}
	if e := alloc.Check(f, own(f.Temps)); e != want {
		t.Fatalf("P21.2: %.500v: error %d", f, e)
	}
	return may
}

var edges = []int{math.MinInt, -2, -1, 0, 1, 4, 5, 6, 400, math.MaxInt}

// Each field of each operation at its edges, whatever the others are; names count for nothing.
func TestFields(t *testing.T) {
	r := rand.New(rand.NewSource(1))
	count := map[bool]int{}
	hand := func(o api.Op) {
		for _, code := range [][]api.Op{{o, {Op: api.OpPrint}, {Op: api.OpEnd}}, {{Op: api.OpPrint}, {Op: api.OpIf, To: 0}, o}, {{Op: api.OpIf, To: 1}, o, {Op: api.OpRet}}} {
			f := api.Func{Name: []string{"", "t", "no name"}[r.Intn(3)], Params: r.Intn(6), Temps: 5, Code: code}
			count[wantMay(t, f)]++
		}
	}
	some := func() int { return edges[r.Intn(len(edges))] }
	right := func() int { return r.Intn(5) }
	for op := -1; op <= 18; op++ {
		for range 400 {
			o := api.Op{Op: op, D: right(), A: right(), B: right(), What: 3 + r.Intn(14), N: int64(1 + r.Intn(127)), To: r.Intn(3), Name: []string{"", "x", "no name"}[r.Intn(3)]}
			for range r.Intn(7) {
				o.Args = append(o.Args, right())
			}
			hand(o)
			switch r.Intn(7) {
			case 0:
				o.D = some()
			case 1:
				o.A = some()
			case 2:
				o.B = some()
			case 3:
				o.To = []int{math.MinInt, -1, 0, 2, 3, 4, math.MaxInt}[r.Intn(7)]
			case 4:
				o.What = []int{math.MinInt, -1, 0, 1, 2, 3, 16, 17, 18, math.MaxInt}[r.Intn(10)]
			case 5:
				o.N = []int64{math.MinInt64, -1, 0, 1, 127, 128, math.MaxInt64}[r.Intn(7)]
			case 6:
				o.Args = append(slices.Clone(o.Args), some())
			}
			hand(o)
		}
	}
	if count[true] < 5000 || count[false] < 5000 {
		t.Errorf("%v", count)
	}
}

func TestParamsAndTemps(t *testing.T) {
	for _, params := range []int{math.MinInt, -1, 0, 1, 4, 5, 399, 400, 401, math.MaxInt} {
		for _, temps := range []int{math.MinInt, -1, 0, 1, 4, 5, 399, 400, 401, math.MaxInt} {
			wantMay(t, api.Func{Params: params, Temps: temps, Code: []api.Op{{Op: api.OpEnd}}})
			wantMay(t, api.Func{Params: params, Temps: temps, Code: []api.Op{{Op: api.OpPrint, A: max(0, temps-1)}, {Op: api.OpJump}}})
		}
	}
}

func TestLengths(t *testing.T) {
	for _, n := range []int{0, 1, 2, 3, 19999, 20000, 20001, 60000} {
		for op := -1; op <= 18; op++ {
			f := api.Func{Name: "f", Temps: 1, Code: make([]api.Op, n)}
			for i := range f.Code {
				f.Code[i] = api.Op{Op: api.OpPrint}
			}
			if n > 0 {
				f.Code[n-1] = api.Op{Op: op, What: api.ADD, N: 1}
			}
			wantMay(t, f)
		}
	}
}
