package emit_test

import (
	"math"
	"math/rand"
	"reflect"
	"slices"
	"strconv"
	"strings"
	"testing"

	"cotter/api"
	"cotter/asm"
	"cotter/asmtext"
	"cotter/emit"
	"cotter/tso"
)

// The call has the type that the chapter lists.
var _ func(api.Module, []api.Func, []api.Alloc) ([]api.Item, api.Errno) = emit.Emit

// wantObject holds an object against its module.
func wantObject(t *testing.T, m api.Module, o api.Object) {
	t.Helper()
	kinds, words := map[string]int{}, 0
	names := map[string]int{}
	for _, d := range m.Decls {
		switch d.Kind {
		case api.DeclLock, api.DeclTicket:
			names[d.Name+".acq"], names[d.Name+".rel"] = api.RelJump, api.RelJump
		case api.DeclQueue:
			names[d.Name+".put"], names[d.Name+".get"] = api.RelJump, api.RelJump
		case api.DeclInt:
			names[d.Name] = api.RelAddr
			if !d.Extern {
				kinds[d.Name] = api.SymData
				words += max(1, d.N)
			}
		case api.DeclFunc, api.DeclThread:
			names[d.Name] = api.RelJump
			if !d.Extern {
				kinds[d.Name] = api.SymCode + (d.Kind-api.DeclFunc)*(api.SymThread-api.SymCode)
			}
		}
	}
	if len(o.Syms) != len(kinds) || len(o.Data) != words || slices.ContainsFunc(o.Data, func(n int64) bool { return n != 0 }) {
		t.Fatalf("P22.1: the symbols %v, %v", o.Syms, o.Data)
	}
	for _, s := range o.Syms {
		if kinds[s.Name] != s.Kind {
			t.Fatalf("P22.1: the symbol %v", s)
		}
	}
	for _, r := range o.Relocs {
		if names[r.Name] != r.Kind {
			t.Fatalf("P22.1: the relocation %v", r)
		}
	}
	wantApart(t, m, o)
}

// wantApart: of the data each global has as many words as it has elements.
func wantApart(t *testing.T, m api.Module, o api.Object) {
	t.Helper()
	var at []int
	for _, d := range m.Decls {
		if d.Kind != api.DeclInt || d.Extern {
			continue
		}
		k := slices.IndexFunc(o.Syms, func(s api.Sym) bool { return s.Name == d.Name })
		for i := range max(1, d.N) {
			at = append(at, o.Syms[k].At+i)
		}
	}
	slices.Sort(at)
	for i, n := range at {
		if i != n {
			t.Fatalf("P22.1: globals share words: %v", o.Syms)
		}
	}
}

// Symbols, words and relocations are such as the module says, whatever its bodies are.
func TestObjects(t *testing.T) {
	for seed := range int64(300) {
		for _, m := range madeUp(t, seed) {
			wantObject(t, m, way{fewer: seed%2 == 0}.object(t, m))
		}
	}
	for _, s := range []string{
		"", "lock l;", "queue q 8; ticket k;", "extern lock l; extern int x by l; extern int f(4) with l rank 9;",
		"lock l; int x by l; int a[64] by l; int b[1] by l;",
		"thread t { }", "thread t { print 5; }", "int f() rank 0 { }", "thread abcdefghijkl { } thread _ { } thread A1 { }",
		"thread mov { } thread r1 { } int jmp() rank 3 { } lock trap; int halt by trap; int acq(ld) rank 0 { with trap { halt = ld; } }",
		"lock abcdefghijkl; int x by abcdefghijkl; int a[3] by abcdefghijkl; int mnopqrstuvwx(abc) with abcdefghijkl rank 1 { a[abc] = x; while (abc) { return a[x]; } }",
	} {
		m := read(t, s)
		for _, fewer := range []bool{false, true} {
			wantObject(t, m, way{fewer: fewer}.object(t, m))
		}
	}
}

// The order of symbols of threads is that of their declarations.
func TestOrder(t *testing.T) {
	m := read(t, "thread z { } int f() rank 0 { } thread a { } thread m { } int e() rank 0 { } thread b { }")
	var threads []string
	for _, s := range (way{}).object(t, m).Syms {
		if s.Kind == api.SymThread {
			threads = append(threads, s.Name)
		}
	}
	if !slices.Equal(threads, []string{"z", "a", "m", "b"}) {
		t.Errorf("%v", threads)
	}
}

func wantErrArg(t *testing.T, label string, m api.Module, f []api.Func, a []api.Alloc) {
	t.Helper()
	if items, e := emit.Emit(m, f, a); e != api.ErrArg || len(items) != 0 {
		t.Errorf("P22.1, R3: %s: %d items, error %d", label, len(items), e)
	}
}

// around is a module, with functions that go with it, which a test then spoils.
func around(t *testing.T) (api.Module, []api.Func, []api.Alloc) {
	t.Helper()
	m := read(t, "lock l; extern ticket k; queue q 2; extern queue r 1; int x by l; extern int y by k; int a[3] by l; extern int b[4] by k; int e(p) rank 0 { } int f(p, s) rank 1 { } extern int g(2) rank 1; extern int h(0) rank 0; thread t { }")
	f := []api.Func{
		{Name: "e", Params: 1, Temps: 2, Code: []api.Op{show(1), back(0)}},
		{Name: "f", Params: 2, Temps: 3, Code: []api.Op{call(2, "e", 0), call(-1, "h"), load(2, "a", 0), store("b", 1, 2), back(2)}},
		{Name: "t", Temps: 2, Code: []api.Op{acq("l"), acq("k"), load(0, "x", -1), store("y", -1, 0), rel("k"), rel("l"), get(0, "q"), put(-1, "r", 0), call(0, "f", 0, 1), call(1, "g", 0, 1), show(1), end}},
	}
	var a []api.Alloc
	for _, one := range f {
		a = append(a, way{}.place(t, one))
	}
	if _, e := emit.Emit(m, f, a); e != api.OK {
		t.Fatalf("P22.1: error %d", e)
	}
	return m, f, a
}

func copies(f []api.Func) []api.Func {
	f = slices.Clone(f)
	for i := range f {
		f[i].Code = slices.Clone(f[i].Code)
		for k := range f[i].Code {
			f[i].Code[k].Args = slices.Clone(f[i].Code[k].Args)
		}
	}
	return f
}

// Functions that do not go with the module.
func TestFunctionsThatMayNotBe(t *testing.T) {
	m, right, a := around(t)
	own := func(f []api.Func) []api.Alloc {
		l := slices.Clone(a)
		for i := range min(len(l), len(f)) {
			l[i] = api.Alloc{Slots: max(0, min(400, f[i].Temps))}
			for k := range l[i].Slots {
				l[i].Where = append(l[i].Where, 8+k)
			}
		}
		return l
	}
	if _, e := emit.Emit(m, right, own(right)); e != api.OK {
		t.Fatalf("P22.1: error %d", e)
	}
	for i, spoil := range []func(f []api.Func){
		func(f []api.Func) { f[0], f[1] = f[1], f[0] },
		func(f []api.Func) { f[0].Name = "d" },
		func(f []api.Func) { f[1].Name = "g" },
		func(f []api.Func) { f[2].Name = "u" },
		func(f []api.Func) { f[1] = f[0] },
		func(f []api.Func) { f[0].Params = 0 },
		func(f []api.Func) { f[0].Params = 2 },
		func(f []api.Func) { f[2].Params = 1 },
		func(f []api.Func) { f[1].Params = -1 },
		func(f []api.Func) { f[1].Temps = 2 },
		func(f []api.Func) { f[1].Temps = 401 },
		func(f []api.Func) { f[1].Temps = math.MinInt },
		func(f []api.Func) { f[1].Code = nil },
		func(f []api.Func) { f[1].Code = f[1].Code[:4] },
		func(f []api.Func) { f[0].Code = make([]api.Op, 20001) },
		func(f []api.Func) { f[0].Code[1] = end },
		func(f []api.Func) { f[2].Code[11] = back(0) },
		func(f []api.Func) { f[2].Code[11] = trap(0) },
		func(f []api.Func) { f[2].Code[11] = trap(128) },
		func(f []api.Func) { f[2].Code[11] = jump(12) },
		func(f []api.Func) { f[2].Code[10] = unless(0, -1) },
		func(f []api.Func) { f[2].Code[10] = show(2) },
		func(f []api.Func) { f[2].Code[10] = bin(api.MOV, 0, 0, 0) },
		func(f []api.Func) { f[2].Code[10] = bin(api.LD, 0, 0, 0) },
		func(f []api.Func) { f[2].Code[10].Op = 0 },
		func(f []api.Func) { f[2].Code[10].Op = 17 },
		func(f []api.Func) { f[2].Code[0].Name = "q" },
		func(f []api.Func) { f[2].Code[0].Name = "none" },
		func(f []api.Func) { f[2].Code[5].Name = "" },
		func(f []api.Func) { f[2].Code[6].Name = "l" },
		func(f []api.Func) { f[2].Code[7].Name = "x" },
		func(f []api.Func) { f[2].Code[2].Name = "a" },
		func(f []api.Func) { f[2].Code[2].Name = "q" },
		func(f []api.Func) { f[2].Code[3].Name = "b" },
		func(f []api.Func) { f[2].Code[2].A = 0 },
		func(f []api.Func) { f[1].Code[2].A = -1 },
		func(f []api.Func) { f[1].Code[3].Name = "y" },
		func(f []api.Func) { f[2].Code[8].Name = "t" },
		func(f []api.Func) { f[2].Code[8].Name = "e" },
		func(f []api.Func) { f[2].Code[8].Name = "none" },
		func(f []api.Func) { f[2].Code[8].Args = []int{0} },
		func(f []api.Func) { f[2].Code[9].Args = []int{0, 0, 0} },
		func(f []api.Func) { f[2].Code[9].Args = []int{0, 2} },
		func(f []api.Func) { f[1].Code[1] = call(2, "g", 0, 1) }, // of the same rank
		func(f []api.Func) { f[0].Code[0] = call(1, "h") },
	} {
		f := copies(right)
		spoil(f)
		wantErrArg(t, "case "+strconv.Itoa(i), m, f, own(f))
	}
	wantErrArg(t, "one too few", m, right[:2], a[:2])
	wantErrArg(t, "none", m, nil, nil)
	wantErrArg(t, "one too many", m, append(copies(right), right[0]), append(slices.Clone(a), a[0]))
	wantErrArg(t, "too few places", m, right, a[:2])
	wantErrArg(t, "no places", m, right, nil)
	wantErrArg(t, "too many places", m, right, append(slices.Clone(a), a[0]))
	wantErrArg(t, "no module", api.Module{}, right, a)
	if items, e := emit.Emit(api.Module{}, nil, nil); e != api.OK || len(items) != 0 {
		t.Errorf("P22.1: nothing: %v, error %d", items, e)
	}
}

// Places that are not right, of one function or another.
func TestPlacesThatMayNotBe(t *testing.T) {
	m, f, right := around(t)
	for i, spoil := range []func(a []api.Alloc){
		func(a []api.Alloc) { a[0].Where = nil },
		func(a []api.Alloc) { a[0].Where = append(a[0].Where, 1) },
		func(a []api.Alloc) { a[0].Where[0] = a[0].Where[1] },
		func(a []api.Alloc) { a[1].Where[0] = 1 },
		func(a []api.Alloc) { a[1].Slots = 0 },
		func(a []api.Alloc) { a[2].Slots = 401 },
		func(a []api.Alloc) { a[2].Where[0] = 7 },
		func(a []api.Alloc) { a[2].Where[0] = math.MinInt },
		func(a []api.Alloc) { a[2] = api.Alloc{} },
	} {
		a := slices.Clone(right)
		for k := range a {
			a[k].Where = slices.Clone(a[k].Where)
		}
		spoil(a)
		wantErrArg(t, "case "+strconv.Itoa(i), m, f, a)
	}
}

// Modules that do not hold, of each error.
func TestModulesThatMayNotBe(t *testing.T) {
	f := []api.Func{{Name: "t", Code: []api.Op{end}}}
	a := []api.Alloc{{}}
	if _, e := emit.Emit(read(t, "thread t { }"), f, a); e != api.OK {
		t.Fatalf("P22.1: error %d", e)
	}
	for _, s := range []string{"thread t { x = 1; }", "lock t; thread t { }", "int x by l; thread t { }", "queue q 9; thread t { }", strings.Repeat("extern lock l; ", 41) + "thread t { }"} {
		wantErrArg(t, s, read(t, s), f, a)
	}
	m := read(t, "thread t { }")
	m.Decls[0].N = 5
	wantErrArg(t, "what no source gives", m, f, a)
	m = read(t, "thread t { }")
	m.Decls[0].Body = []int{7}
	wantErrArg(t, "what no source gives", m, f, a)
}

func spoilItems(l []api.Item) {
	for i := range l[:cap(l)] {
		words := l[:cap(l)][i].Words
		for k := range words[:cap(words)] {
			words[:cap(words)][k] = 4242
		}
	}
	clear(l[:cap(l)])
}

// What is handed in stays as it is; what is answered is new, each of its lists, and the same each time.
func TestNewMemory(t *testing.T) {
	for seed := range int64(60) {
		for _, m := range madeUp(t, seed) {
			f, a := way{fewer: seed%2 == 0}.functions(t, m)
			wasF, wasM := copies(f), read(t, printed(t, m))
			wasA := slices.Clone(a)
			for i := range wasA {
				wasA[i].Where = slices.Clone(a[i].Where)
			}
			first, _ := emit.Emit(m, f, a)
			second, _ := emit.Emit(m, f, a)
			if !reflect.DeepEqual(first, second) {
				t.Fatalf("R6: seed %d", seed)
			}
			for i, item := range first { // each list is written over, one behind the other
				for k := range item.Words[:cap(item.Words)] {
					item.Words[:cap(item.Words)][k] = 4242
				}
				for _, later := range first[i+1:] {
					if slices.Contains(later.Words, 4242) {
						t.Fatalf("R5: seed %d: lists are shared", seed)
					}
				}
			}
			spoilItems(first)
			if third, _ := emit.Emit(m, f, a); !reflect.DeepEqual(third, second) || !reflect.DeepEqual(f, wasF) || !reflect.DeepEqual(a, wasA) || !reflect.DeepEqual(m, wasM) {
				t.Fatalf("R5: seed %d", seed)
			}
		}
	}
}

// Items that are too many are still such of which the assembler says that they are too large; as many as there may be are assembled.
func TestTooMany(t *testing.T) {
	m := read(t, "thread t { }")
	for _, n := range []int{19000, 19995, 19996, 19997, 19998, 19999, 20000} {
		f := api.Func{Name: "t", Temps: 1}
		for range n - 1 {
			f.Code = append(f.Code, bin(api.ADD, 0, 0, 0))
		}
		f.Code = append(f.Code, end)
		items, e := emit.Emit(m, []api.Func{f}, []api.Alloc{{Where: []int{1}}})
		if e != api.OK || asmtext.Check(items) != api.OK {
			t.Fatalf("P22.1: %d: error %d, Check: error %d", n, e, asmtext.Check(items))
		}
		o, e := asm.Assemble(items)
		if want := n <= 19997; (e == api.OK) != want || e != api.OK && e != api.ErrLarge {
			t.Errorf("P22.1: %d operations: error %d", n, e)
		}
		if e == api.OK {
			wantObject(t, m, o)
			if events, _ := tso.Run(linked(t, o), make([]int, 20000)); len(events) != 1 {
				t.Errorf("P22.2: %v", events)
			}
		}
	}
}

// The largest functions, as many as a module may give.
func TestLargest(t *testing.T) {
	source := "lock l; int a[64] by l; "
	for i := range 40 {
		source += "int f" + strconv.Itoa(i) + "(p, s, u, v) rank 0 { } "
	}
	m := read(t, source)
	r := rand.New(rand.NewSource(9))
	code := make([]api.Op, api.MaxOps)
	for i := range code {
		code[i] = []api.Op{bin(api.DIV, r.Intn(400), r.Intn(400), r.Intn(400)), load(r.Intn(400), "a", r.Intn(400)), store("a", r.Intn(400), r.Intn(400)), unless(r.Intn(400), r.Intn(len(code))), acq("l")}[r.Intn(5)]
	}
	code[len(code)-1] = jump(7)
	var f []api.Func
	var a []api.Alloc
	for i := range 40 {
		f = append(f, api.Func{Name: "f" + strconv.Itoa(i), Params: 4, Temps: 400, Code: code})
		a = append(a, api.Alloc{Slots: 400})
		for k := range 400 {
			a[i].Where = append(a[i].Where, 8+k)
		}
	}
	items, e := emit.Emit(m, f, a)
	if e != api.OK {
		t.Fatalf("P22.1: error %d", e)
	}
	if _, e = asm.Assemble(items); e != api.ErrLarge {
		t.Errorf("P22.1: Assemble: error %d", e)
	}
	a[39].Where[5] = 8
	wantErrArg(t, "the last one's places", m, f, a)
}
