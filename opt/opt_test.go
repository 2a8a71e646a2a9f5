package opt_test

import (
	"math"
	"math/rand"
	"reflect"
	"slices"
	"strconv"
	"testing"

	"cotter/api"
	"cotter/opt"
	"cotter/rtl"
)

// wantCode: of operations over six temps, the first two of which are parameters, these are left.
func wantCode(t *testing.T, label string, code []api.Op, want ...api.Op) {
	t.Helper()
	g := made(t, api.Func{Name: "f", Params: 2, Temps: 6, Code: code})
	if !reflect.DeepEqual(g.Code, want) {
		t.Errorf("%s: %+v; want %+v", label, g.Code, want)
	}
}

// What is known, what is copied, what nobody reads, what is never come to.
func TestFewer(t *testing.T) {
	wantCode(t, "the chapter's example", []api.Op{constant(0, 2), constant(1, 3), bin(api.MUL, 2, 0, 1), show(2), end}, constant(2, 6), show(2), end)
	wantCode(t, "a copy", []api.Op{copied(2, 0), copied(3, 2), show(3), back(2)}, show(0), back(0))
	wantCode(t, "a copy of what is written", []api.Op{copied(2, 0), constant(0, 7), show(2), show(0), back(1)}, copied(2, 0), constant(0, 7), show(2), show(0), back(1))
	wantCode(t, "a copy into itself", []api.Op{copied(0, 0), copied(2, 0), copied(0, 2), show(0), back(1)}, show(0), back(1))
	wantCode(t, "a number that it is already", []api.Op{constant(2, 5), show(2), constant(2, 5), show(2), end}, constant(2, 5), show(2), show(2), end)
	wantCode(t, "a copy that is made again", []api.Op{copied(2, 0), show(1), copied(2, 0), call(-1, "f", 2, 0), end}, show(1), call(-1, "f", 0, 0), end)
	wantCode(t, "a known test", []api.Op{constant(2, 0), unless(2, 3), show(0), show(1), end}, show(1), end)
	wantCode(t, "a known test that does not hold", []api.Op{constant(2, 4), unless(2, 3), show(0), show(1), end}, show(0), show(1), end)
	wantCode(t, "a test of a temp that was tested", []api.Op{unless(0, 3), show(0), back(0), unless(0, 5), show(1), back(0)}, unless(0, 3), show(0), back(0), back(0))
	wantCode(t, "what a test tells", []api.Op{unless(0, 3), show(1), back(1), constant(2, 5), bin(api.ADD, 3, 0, 2), back(3)}, unless(0, 3), show(1), back(1), constant(3, 5), back(3))
	wantCode(t, "known on both ways", []api.Op{constant(2, 4), unless(0, 3), show(1), constant(3, 1), bin(api.ADD, 4, 2, 3), back(4)}, unless(0, 2), show(1), constant(4, 5), back(4))
	wantCode(t, "not known on both ways", []api.Op{constant(2, 4), unless(0, 3), constant(2, 5), show(2), end}, constant(2, 4), unless(0, 3), constant(2, 5), show(2), end)
	wantCode(t, "no reader", []api.Op{constant(2, 4), bin(api.ADD, 3, 2, 0), load(4, "x", -1), copied(5, 4), end}, end)
	wantCode(t, "a reader that nobody reads", []api.Op{bin(api.ADD, 2, 2, 0), unless(1, 0), end}, unless(1, 0), end)
	wantCode(t, "answers that nobody reads", []api.Op{call(2, "f", 0), get(3, "q"), put(4, "q", 0), end}, call(-1, "f", 0), get(-1, "q"), put(-1, "q", 0), end)
	wantCode(t, "answers that are copied", []api.Op{call(2, "f"), copied(3, 2), get(2, "q"), copied(4, 2), put(2, "q", 3), copied(5, 2), call(-1, "g", 4, 5), end}, call(3, "f"), get(4, "q"), put(5, "q", 3), call(-1, "g", 4, 5), end)
	wantCode(t, "a copy to which a way leads", []api.Op{bin(api.ADD, 2, 0, 1), unless(0, 3), bin(api.SUB, 2, 0, 1), copied(3, 2), show(3), back(3)}, bin(api.ADD, 2, 0, 1), unless(0, 3), bin(api.SUB, 2, 0, 1), show(2), back(2))
	wantCode(t, "jumps over jumps", []api.Op{unless(0, 3), show(0), jump(4), jump(6), jump(7), show(1), jump(4), show(2), end}, unless(0, 2), show(0), show(2), end)
	wantCode(t, "a jump to the end", []api.Op{unless(0, 2), jump(4), show(0), show(1), back(1)}, unless(0, 2), back(1), show(0), show(1), back(1))
	wantCode(t, "never come to", []api.Op{jump(3), show(0), jump(1), show(1), end, jump(4)}, show(1), end)
	wantCode(t, "the last one is never come to", []api.Op{end, jump(0)}, end)
	wantCode(t, "a division by nothing", []api.Op{constant(2, 0), bin(api.DIV, 3, 0, 2), show(3), end}, trap(1))
	wantCode(t, "a rest by nothing", []api.Op{show(0), constant(2, 0), bin(api.REM, 3, 0, 2), end}, show(0), trap(1))
}

// What may have a fault stays, whoever reads it; so does what others see.
func TestStays(t *testing.T) {
	for _, l := range [][]api.Op{
		{bin(api.DIV, 2, 0, 1), end},
		{bin(api.REM, 2, 0, 1), end},
		{load(2, "a", 0), end},
		{store("a", 0, 1), store("x", -1, 1), end},
		{acq("l"), rel("l"), acq("l"), rel("l"), end},
		{show(0), show(0), trap(127)},
		{bin(api.DIV, 2, 0, 0), back(2)},
		// Ways that go round for ever do not end, nor end those behind which nothing is seen.
		{jump(0)},
		{unless(0, 0), end},
		{unless(0, 2), show(0), jump(2)},
		{bin(api.ADD, 0, 0, 1), unless(0, 0), back(0)},
	} {
		wantCode(t, "all stays", l, l...)
	}
	wantCode(t, "round over jumps", []api.Op{jump(2), end, jump(3), jump(2)}, jump(0))
	wantCode(t, "round over what goes", []api.Op{constant(2, 1), copied(3, 2), jump(0)}, jump(0))
	wantCode(t, "round over tests", []api.Op{unless(0, 2), back(1), unless(0, 0), back(0)}, unless(0, 0), back(1))
	wantCode(t, "round by two ways", []api.Op{show(0), show(1), unless(0, 4), jump(1), jump(0)}, show(0), show(1), unless(0, 0), jump(1))
	wantCode(t, "round by a known test", []api.Op{constant(2, 0), unless(2, 0), show(1), end}, jump(0))
}

// Tests of tests that nobody needs go, however many there are.
func TestLongWays(t *testing.T) {
	var code []api.Op
	for range 2500 {
		at := len(code)
		code = append(code, load(1, "x", -1), unless(0, at+5), unless(1, at+5), constant(0, 1), jump(at+6), constant(0, 0))
	}
	wantCode(t, "nobody reads it", append(slices.Clone(code), end), end)
	if g := made(t, api.Func{Name: "f", Params: 1, Temps: 2, Code: append(slices.Clone(code), show(0), end)}); len(g.Code) < 2500 {
		t.Errorf("%d operations are left of what is read", len(g.Code))
	}
}

// run is what is seen of a thread that calls f with two numbers, and prints what that answers.
func run(t *testing.T, l []api.Module, f api.Func, a, b int64) []api.Event {
	t.Helper()
	caller := api.Func{Name: "t", Temps: 3, Code: []api.Op{constant(0, a), constant(1, b), call(2, "f", 0, 1), show(2), end}}
	events, e := rtl.Run(l, []api.Func{caller, f}, make([]int, 40))
	if e != api.OK {
		t.Fatalf("%+v: error %d", f, e)
	}
	return events
}

var numbers = []int64{0, 1, -1, 2, 3, -7, 62, 63, 64, 65, 1 << 31, -1 << 31, 1 << 62, math.MinInt64, math.MinInt64 + 1, math.MaxInt64, math.MaxInt64 - 1}

// Each operation of two sides, of which neither, one or both are known.
func TestKnownSides(t *testing.T) {
	l := reads(t, "int f(p, s) rank 0 { } thread t { }")
	for what := api.ADD; what <= api.LE; what++ {
		for _, n := range numbers {
			for i, code := range [][]api.Op{
				{constant(2, n), bin(what, 3, 0, 2), back(3)},
				{constant(2, n), bin(what, 3, 2, 0), back(3)},
				{constant(2, n), constant(3, 5), bin(what, 0, 2, 3), back(0)},
				{constant(2, n), copied(1, 2), bin(what, 1, 1, 1), back(1)},
				{bin(what, 3, 0, 0), back(3)},
				{copied(2, 0), bin(what, 0, 2, 0), back(0)},
				{constant(2, n), bin(what, 0, 0, 2), back(0)},
				{constant(0, n), bin(what, 0, 0, 1), back(0)},
				{constant(0, n), bin(what, 3, 0, 1), back(1)},
			} {
				f := api.Func{Name: "f", Params: 2, Temps: 4, Code: code}
				g := made(t, f)
				for _, m := range numbers {
					if was, now := run(t, l, f, m, m), run(t, l, g, m, m); !slices.Equal(was, now) {
						t.Fatalf("P20.2: case %d: %+v of %d: %v; %+v: %v", i, f, m, was, g, now)
					}
				}
			}
		}
	}
}

// Where one side is all that counts, no operation of two sides is left.
func TestOneSide(t *testing.T) {
	type row struct {
		what int
		n    int64
		left bool
		want []api.Op
	}
	other, none := []api.Op{back(0)}, []api.Op{constant(3, 0), back(3)}
	all := []api.Op{constant(3, -1), back(3)}
	for _, c := range []row{
		{api.ADD, 0, true, other}, {api.ADD, 0, false, other}, {api.SUB, 0, false, other}, {api.MUL, 1, true, other}, {api.MUL, 1, false, other}, {api.MUL, 0, true, none}, {api.MUL, 0, false, none},
		{api.DIV, 1, false, other}, {api.REM, 1, false, none}, {api.REM, -1, false, none}, {api.AND, -1, true, other}, {api.AND, -1, false, other}, {api.AND, 0, true, none}, {api.AND, 0, false, none},
		{api.OR, 0, true, other}, {api.OR, 0, false, other}, {api.OR, -1, true, all}, {api.OR, -1, false, all}, {api.XOR, 0, true, other}, {api.XOR, 0, false, other},
		{api.SHL, 0, false, other}, {api.SHL, 0, true, none}, {api.SAR, 0, false, other}, {api.SAR, 0, true, none}, {api.SAR, -1, true, all},
	} {
		o := bin(c.what, 3, 0, 2)
		if c.left {
			o.A, o.B = 2, 0
		}
		wantCode(t, strconv.Itoa(c.what)+" of "+strconv.FormatInt(c.n, 10), []api.Op{constant(2, c.n), o, back(3)}, c.want...)
	}
	for what, want := range map[int][]api.Op{api.SUB: none, api.XOR: none, api.NE: none, api.LT: none, api.AND: other, api.OR: other, api.EQ: {constant(3, 1), back(3)}, api.LE: {constant(3, 1), back(3)}} {
		wantCode(t, strconv.Itoa(what)+" of one temp", []api.Op{bin(what, 3, 0, 0), back(3)}, want...)
	}
}

// copyOf is a function that shares no memory.
func copyOf(f api.Func) api.Func {
	f.Code = slices.Clone(f.Code)
	for i := range f.Code {
		f.Code[i].Args = slices.Clone(f.Code[i].Args)
	}
	return f
}

// What is handed in stays as it is; what is answered is new, each of its lists, and the same each time.
func TestNewMemory(t *testing.T) {
	l := reads(t, front)
	shared := []int{0, 1, 0, 1}
	lists := api.Func{Name: "f", Params: 2, Temps: 2, Code: []api.Op{call(-1, "f", shared...), call(-1, "g", shared[:2]...), unless(0, 4), call(-1, "f", shared[1:3]...), call(-1, "h", shared...), back(0)}}
	all := []api.Func{lists}
	for seed := range int64(200) {
		all = append(all, madeUp(t, l, seed)...)
	}
	for _, f := range all {
		was := copyOf(f)
		g, again := made(t, f), made(t, was)
		want := copyOf(again)
		if !reflect.DeepEqual(g, again) {
			t.Fatalf("R6: %+v: %+v, then %+v", f, g, again)
		}
		for i := range g.Code { // each list is written over, one behind the other
			args := g.Code[i].Args
			for k := range args[:cap(args)] {
				args[:cap(args)][k] = -9
			}
			g.Code[i].Args, want.Code[i].Args = nil, nil
			if !reflect.DeepEqual(g, want) {
				t.Fatalf("R5: %+v: the list of operation %d is shared", f, i)
			}
		}
		clear(g.Code[:cap(g.Code)])
		if !reflect.DeepEqual(f, was) {
			t.Fatalf("R5: %+v became %+v", was, f)
		}
		if third, _ := opt.Opt(f); !reflect.DeepEqual(third, again) {
			t.Fatalf("R5: what was answered is kept: %+v", third)
		}
	}
}

// The largest functions, of shapes that might take long.
func TestLarge(t *testing.T) {
	const n, temps = api.MaxOps, api.MaxTemps
	r := rand.New(rand.NewSource(5))
	shapes := map[string]func(i int) api.Op{
		"numbers":     func(i int) api.Op { return constant(i%temps, int64(i)) },
		"copies":      func(i int) api.Op { return copied((i+1)%temps, i%temps) },
		"known tests": func(i int) api.Op { return []api.Op{constant(5, 1), unless(5, min(i+2, n-1)), show(5)}[i%3] },
		"known choices": func(i int) api.Op {
			if i == 0 {
				return constant(5, 1)
			}
			return []api.Op{constant(5, 0), unless(5, min(i+3, n-1)), show(0), jump(min(i+2, n-1))}[i%4]
		},
		"unknown tests": func(i int) api.Op { return []api.Op{constant(5+i%100, 1), unless(0, min(i+5000, n-1)), show(5)}[i%3] },
		"jumps ahead":   func(i int) api.Op { return jump(i + 1) },
		"jumps back":    func(i int) api.Op { return jump(max(0, i-1)) },
		"prints back":   func(i int) api.Op { return []api.Op{show(0), unless(0, max(0, i-7)), jump(max(0, i-5))}[i%3] },
		"a long way":    func(i int) api.Op { return bin(api.ADD, (i+1)%temps, i%temps, (i+7)%temps) },
		"loops": func(i int) api.Op {
			return []api.Op{bin(api.ADD, i%temps, i%temps, 0), unless(i%temps, max(0, i-500))}[i%2]
		},
		"blocks in turn": func(i int) api.Op { return []api.Op{show(i % temps), jump((i + 7000) % n)}[i%2] },
		"anything": func(i int) api.Op {
			w := author{Rand: r, f: api.Func{Name: "t", Temps: temps}}
			return w.op(0, n-1, true)
		},
		"anything near": func(i int) api.Op {
			w := author{Rand: r, f: api.Func{Name: "t", Temps: 20}}
			return w.op(max(0, i-30), min(i+30, n-1), true)
		},
	}
	most := map[string]int{"numbers": 1, "copies": 1, "known tests": 6668, "known choices": 5002, "unknown tests": 13334, "jumps ahead": 1, "jumps back": 1, "prints back": 3, "a long way": 1, "loops": 10000, "blocks in turn": 2, "anything": n, "anything near": n}
	for label, shape := range shapes {
		f := api.Func{Name: "t", Params: 1, Temps: temps}
		for i := range n - 1 {
			f.Code = append(f.Code, shape(i))
		}
		f.Code = append(f.Code, end)
		if g := made(t, f); len(g.Code) > most[label] {
			t.Errorf("%s: %d operations are left", label, len(g.Code))
		}
	}
}
