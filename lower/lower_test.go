package lower_test

import (
	"reflect"
	"slices"
	"strings"
	"testing"

	"cotter/api"
	"cotter/check"
	"cotter/lex"
	"cotter/lower"
	"cotter/rtl"
)

// The call has the type that the chapter lists.
var _ func(api.Module) ([]api.Func, api.Errno) = lower.Lower

// A function for each that the module gives, in their order.
func TestFunctions(t *testing.T) {
	m := read(t, "extern int e(2) rank 1; thread u { } lock l; int f(a, b, c, d) with l rank 3 { } extern lock k; int g() rank 0 { } int x by l; queue q 3; thread t { }")
	l, e := lower.Lower(m)
	if e != api.OK || len(l) != 4 {
		t.Fatalf("P19.1: %v, error %d", l, e)
	}
	for i, want := range []struct {
		name   string
		params int
	}{{"u", 0}, {"f", 4}, {"g", 0}, {"t", 0}} {
		if l[i].Name != want.name || l[i].Params != want.params {
			t.Errorf("P19.1: %d: %+v", i, l[i])
		}
	}
	for _, s := range []string{"", "lock l;", "extern int f(1) rank 0;", "extern lock l; extern int x by l;"} {
		if l, e := lower.Lower(read(t, s)); len(l) != 0 || e != api.OK {
			t.Errorf("P19.1: %q: %v, error %d", s, l, e)
		}
	}
}

func TestErrors(t *testing.T) {
	for want, sources := range map[api.Errno][]string{
		api.ErrType:      {"thread t { x = 1; }", "lock l; int x by l; thread t { x = 1; }", "queue q 9; thread t { }", "int f() rank 0 { } int g() rank 0 { f(); }", "thread t { return 1; }"},
		api.ErrDuplicate: {"lock l; lock l;", "thread t { } int t() rank 0 { }", "lock l; lock l; thread t { x = 1; }"},
		api.ErrLarge:     {strings.Repeat("lock l; ", 41), strings.Repeat("thread t { } ", 41)},
	} {
		for _, s := range sources {
			m := read(t, s)
			l, e := lower.Lower(m)
			if e != want || len(l) != 0 || e != check.Module(m) {
				t.Errorf("P19.1: %.60q: %v, error %d; want %d", s, l, e, want)
			}
		}
	}
	for i, m := range []api.Module{
		{Exps: []api.Exp{{}}},
		{Stmts: []api.Stmt{{Kind: api.StPrint, E: 7}}, Decls: []api.Decl{{Kind: api.DeclThread, Name: "t", Body: []int{0}}}},
		{Decls: []api.Decl{{Kind: api.DeclThread, Name: "t", Body: []int{-1}}}},
		{Decls: []api.Decl{{Kind: 77}}},
	} {
		if l, e := lower.Lower(m); len(l) != 0 || e != api.ErrArg {
			t.Errorf("P19.1: case %d: %v, error %d", i, l, e)
		}
	}
}

// wantTheirs: what is lowered is the modules', and has no field that its kind does not have.
func wantTheirs(t *testing.T, sources ...string) {
	t.Helper()
	l := reads(t, sources...)
	f := lowered(t, l)
	if e := rtl.Check(l, f); e != api.OK {
		for _, one := range f {
			t.Errorf("P19.2: %s: %d temps, %d operations", one.Name, one.Temps, len(one.Code))
		}
		t.Fatalf("P19.2: %.200q: error %d", sources, e)
	}
}

// The deepest and the longest that a source can hold are small enough.
func TestLimits(t *testing.T) {
	levels := "1 || 1 && 1 | 1 ^ 1 & 1 == 1 < 1 << 1 + 1 * "
	nest := func(n int, open, shut string) string {
		return strings.Repeat(levels+open, n) + levels + "1" + strings.Repeat(shut, n)
	}
	vars := ""
	for _, name := range strings.Split("abcdefghijklmnopqrstuvwx", "") {
		vars += "var " + name + " = 1; "
	}
	wantTheirs(t, "thread T { "+vars+"print "+nest(19, "(", ")")+"; }")
	wantTheirs(t, "int F(a, b, c, d) rank 0 { } thread T { "+vars+"F(1, 2, 3, "+nest(19, "(", ")")+"); }")
	wantTheirs(t, "lock z; int y[64] by z; thread T { "+vars+"with z { y["+nest(17, "(", ")")+"] = "+nest(18, "y[", "]")+"; } }")
	unary := "1" + strings.Repeat("||"+strings.Repeat("-", 19)+"1", 180)
	wantTheirs(t, "thread t { print "+unary+"; }")
	for _, sign := range []string{"||", "&&", "+", ">"} {
		wantTheirs(t, "thread t { print 1"+strings.Repeat(sign+"1", 1990)+"; }")
		wantTheirs(t, "thread t { var v = 1; print v"+strings.Repeat(sign+"v", 1980)+"; }")
		wantTheirs(t, "thread t { print 1"+strings.Repeat(sign+"!1", 1320)+"; }")
	}
	for _, s := range []string{"print 1; ", "while (1) { } ", "if (1) { } else { v = 1; } ", "with l { } ", "get(q); ", "v = put(q, 1); ", "f(); ", "x = 1; "} {
		tokens, _ := lex.Lex(s)
		n := (api.MaxTokens - 60) / (len(tokens) - 1)
		wantTheirs(t, "lock k; int x by k; lock l; queue q 1; int f() rank 0 { } int g() with k rank 1 { var v = 1; "+strings.Repeat(s, n)+" } thread t { }")
	}
	functions := ""
	for _, name := range strings.Split("abcdefghijklmnopqrstuvwxyzABCDEFGHIJKLM", "") {
		functions += "int " + name + "() rank 0 { } "
	}
	wantTheirs(t, functions+"thread T { }")
}

// Whichever fields of an operation one takes for temps, they are such: an OpGet's B, which is 0, too.
func TestGetAlone(t *testing.T) {
	l, e := lower.Lower(read(t, "queue q 1; thread t { get(q); }"))
	if e != api.OK || len(l) != 1 || l[0].Temps < 1 || l[0].Code[0].B != 0 {
		t.Errorf("P19.2: %+v, error %d", l, e)
	}
}

// What a kind of operation does not have is zero.
func TestFields(t *testing.T) {
	has := map[int]string{
		api.OpConst: "D N", api.OpCopy: "D A", api.OpBin: "D A B What", api.OpLoad: "D A Name", api.OpStore: "A B Name", api.OpCall: "D Name Args", api.OpGet: "D Name", api.OpPut: "D B Name",
		api.OpAcq: "Name", api.OpRel: "Name", api.OpJump: "To", api.OpIf: "A To", api.OpPrint: "A", api.OpRet: "A", api.OpEnd: "", api.OpTrap: "N",
	}
	seen := map[int]int{}
	for seed := range int64(300) {
		for _, f := range lowered(t, madeUp(t, seed)) {
			for _, o := range f.Code {
				seen[o.Op]++
				v := reflect.ValueOf(o)
				for i := range v.NumField() {
					name := v.Type().Field(i).Name
					if name != "Op" && !slices.Contains(strings.Fields(has[o.Op]), name) && !v.Field(i).IsZero() {
						t.Fatalf("R4: seed %d: %+v", seed, o)
					}
				}
			}
		}
	}
	for op := api.OpConst; op < api.OpTrap; op++ {
		if seen[op] < 100 {
			t.Errorf("too few of operation %d: %v", op, seen)
		}
	}
}

// spoil writes over all of an answer, its spare room too.
func spoil(l []api.Func) {
	for _, f := range l[:cap(l)] {
		for i, o := range f.Code[:cap(f.Code)] {
			for k := range o.Args[:cap(o.Args)] {
				o.Args[:cap(o.Args)][k] = -9
			}
			f.Code[:cap(f.Code)][i] = api.Op{Op: -9}
		}
	}
	clear(l[:cap(l)])
}

// copyOf is a module that shares no memory.
func copyOf(m api.Module) api.Module {
	m.Decls, m.Stmts, m.Exps = slices.Clone(m.Decls), slices.Clone(m.Stmts), slices.Clone(m.Exps)
	for i := range m.Decls {
		m.Decls[i].Params, m.Decls[i].Body = slices.Clone(m.Decls[i].Params), slices.Clone(m.Decls[i].Body)
	}
	for i := range m.Stmts {
		s := &m.Stmts[i]
		s.Args, s.Body, s.Else = slices.Clone(s.Args), slices.Clone(s.Body), slices.Clone(s.Else)
	}
	return m
}

// What is handed in stays as it is; what is answered is new, and the same each time, whichever other module there is.
func TestNewMemory(t *testing.T) {
	for seed := range int64(100) {
		for i, m := range madeUp(t, seed) {
			was := copyOf(m)
			first, _ := lower.Lower(m)
			again, _ := lower.Lower(was)
			if !reflect.DeepEqual(first, again) {
				t.Fatalf("R6: seed %d", seed)
			}
			spoil(first)
			if !reflect.DeepEqual(m, was) {
				t.Fatalf("R5: seed %d, module %d: what was handed in is another one", seed, i)
			}
			if third, _ := lower.Lower(m); !reflect.DeepEqual(third, again) {
				t.Fatalf("R5: seed %d, module %d: what was answered is kept", seed, i)
			}
		}
	}
}

// No two lists of one answer share memory: each is written over, one behind the other.
func TestListsApart(t *testing.T) {
	m := read(t, "int f(a, b) rank 0 { } int g(a) rank 1 { f(a, 1); f(1, a); f(a, a); return a; } thread t { var v = 1; f(v, v); g(v); f(1, 2); }")
	l, _ := lower.Lower(m)
	want, _ := lower.Lower(m)
	for i := range l {
		for k := range l[i].Code {
			args := l[i].Code[k].Args
			for n := range args[:cap(args)] {
				args[:cap(args)][n] = -1
			}
			l[i].Code[k].Args, want[i].Code[k].Args = nil, nil
			if !reflect.DeepEqual(l, want) {
				t.Fatalf("R5: function %d, operation %d: its list is shared", i, k)
			}
		}
		code := l[i].Code
		clear(code[:cap(code)])
		l[i].Code, want[i].Code = nil, nil
		if !reflect.DeepEqual(l, want) {
			t.Fatalf("R5: function %d: its operations are shared", i)
		}
	}
}

// A module's functions hang on no other module: where another one gives what it needs, they are the same.
func TestAlone(t *testing.T) {
	user := "extern lock l; extern int x by l; extern int f(1) with l rank 2; thread t { var v = 2; with l { v = f(v + x); x = v; } print v; }"
	givers := []string{
		"lock l; int x by l; int f(p) with l rank 2 { return p + 1; }",
		"ticket l; int x by l; int f(p) with l rank 2 { x = 7; return p * 10; }",
	}
	want := []int64{3, 20}
	alone, e := lower.Lower(read(t, user))
	if e != api.OK {
		t.Fatalf("P19.1: error %d", e)
	}
	for i, giver := range givers {
		l := reads(t, giver, user)
		others, _ := lower.Lower(l[0])
		for _, f := range [][]api.Func{append(slices.Clone(alone), others...), append(slices.Clone(others), alone...)} {
			events, e := rtl.Run(l, f, make([]int, 100))
			if e != api.OK || !slices.Equal(events, []api.Event{print(want[i]), end}) {
				t.Errorf("P19.4: %s: %v, error %d", giver, events, e)
			}
		}
	}
}
