package src_test

import (
	"math/rand"
	"reflect"
	"slices"
	"strconv"
	"strings"
	"testing"

	"cotter/api"
	"cotter/check"
	"cotter/src"
)

// bare has nil for lists that are empty.
func bare(l []api.Body) []api.Body {
	var out []api.Body
	for _, b := range l {
		b.Vars = append([]string(nil), b.Vars...)
		b.Code = append([]api.Flat(nil), b.Code...)
		for i := range b.Code {
			b.Code[i].Args = append([]int(nil), b.Code[i].Args...)
		}
		out = append(out, b)
	}
	return out
}

func wantFlat(t *testing.T, s string, want ...api.Body) {
	t.Helper()
	m, twin := read(t, s), read(t, s)
	for range 2 {
		if l, e := src.Flatten(m); e != api.OK || !reflect.DeepEqual(bare(l), want) {
			t.Errorf("P17.1: %q: %+v, error %d; want %+v", s, l, e, want)
		}
	}
	if !reflect.DeepEqual(m, twin) {
		t.Errorf("R5: %q is changed", s)
	}
	if l := modelFlatten(m); !reflect.DeepEqual(l, want) {
		t.Errorf("the model: %q: %+v; want %+v", s, l, want)
	}
}

// thread is the body of a thread t, but for its end.
func thread(vars []string, l ...api.Flat) api.Body {
	return api.Body{Name: "t", Vars: vars, Code: append(l, api.Flat{Op: api.FlEnd})}
}

func TestFlat(t *testing.T) {
	wantFlat(t, "")
	wantFlat(t, "lock l; queue q 1; extern int f(2) rank 1; int x by l;")
	wantFlat(t, "thread t { }", thread(nil))
	wantFlat(t, "int f() rank 1 { }", api.Body{Name: "f", Code: []api.Flat{{Op: api.FlRet, E: -1}}})
	wantFlat(t, "int f(p, r) rank 1 { return p; }", api.Body{Name: "f", Params: 2, Vars: []string{"p", "r"}, Code: []api.Flat{{Op: api.FlRet, E: 0}, {Op: api.FlRet, E: -1}}})
	wantFlat(t, "thread t { var v = 1; var w = v; v = 7; }", thread([]string{"v", "w"}, api.Flat{Op: api.FlSet, A: 0, E: 0}, api.Flat{Op: api.FlSet, A: 1, E: 1}, api.Flat{Op: api.FlSet, A: 0, E: 2}))
	wantFlat(t, "lock l; int x by l; int a[2] by l; thread t { with l { x = 1 + 2; a[1] = 3; } }", thread(nil,
		api.Flat{Op: api.FlAcq, Name: "l"}, api.Flat{Op: api.FlSetG, Name: "x", I: -1, E: 2}, api.Flat{Op: api.FlSetG, Name: "a", I: 3, E: 4}, api.Flat{Op: api.FlRel, Name: "l"}))
	wantFlat(t, "thread t { print 1; print -1; }", thread(nil, api.Flat{Op: api.FlPrint, E: 0}, api.Flat{Op: api.FlPrint, E: 2}))
	wantFlat(t, "queue q 1; thread t { var u = 0; var v = 1; v = get(q); get(q); v = put(q, 5); put(q, 1 + 1); u = get(q); }", thread([]string{"u", "v"},
		api.Flat{Op: api.FlSet, A: 0, E: 0}, api.Flat{Op: api.FlSet, A: 1, E: 1}, api.Flat{Op: api.FlGet, A: 1, Name: "q"}, api.Flat{Op: api.FlGet, A: -1, Name: "q"},
		api.Flat{Op: api.FlPut, A: 1, Name: "q", E: 2}, api.Flat{Op: api.FlPut, A: -1, Name: "q", E: 5}, api.Flat{Op: api.FlGet, A: 0, Name: "q"}))
	wantFlat(t, "extern int f(2) rank 1; extern int g(0) rank 9; thread t { var v = 0; v = f(1, 2 + 3); f(v, v); g(); v = g(); }", thread([]string{"v"},
		api.Flat{Op: api.FlSet, A: 0, E: 0}, api.Flat{Op: api.FlCall, A: 0, Name: "f", Args: []int{1, 4}}, api.Flat{Op: api.FlCall, A: -1, Name: "f", Args: []int{5, 6}}, api.Flat{Op: api.FlCall, A: -1, Name: "g"}, api.Flat{Op: api.FlCall, A: 0, Name: "g"}))
}

func TestFlatTurns(t *testing.T) {
	wantFlat(t, "thread t { if (5) { } }", thread(nil, api.Flat{Op: api.FlTest, E: 0, To: 1}))
	wantFlat(t, "thread t { if (5) { } else { } print 1; }", thread(nil, api.Flat{Op: api.FlTest, E: 0, To: 1}, api.Flat{Op: api.FlPrint, E: 1}))
	wantFlat(t, "thread t { if (5) { print 1; } print 2; }", thread(nil, api.Flat{Op: api.FlTest, E: 0, To: 2}, api.Flat{Op: api.FlPrint, E: 1}, api.Flat{Op: api.FlPrint, E: 2}))
	wantFlat(t, "thread t { if (5) { print 1; } else { print 2; print 3; } print 4; }", thread(nil,
		api.Flat{Op: api.FlTest, E: 0, To: 3}, api.Flat{Op: api.FlPrint, E: 1}, api.Flat{Op: api.FlJump, To: 5}, api.Flat{Op: api.FlPrint, E: 2}, api.Flat{Op: api.FlPrint, E: 3}, api.Flat{Op: api.FlPrint, E: 4}))
	wantFlat(t, "thread t { if (5) { } else { print 2; } }", thread(nil, api.Flat{Op: api.FlTest, E: 0, To: 2}, api.Flat{Op: api.FlJump, To: 3}, api.Flat{Op: api.FlPrint, E: 1}))
	wantFlat(t, "thread t { while (5) { } }", thread(nil, api.Flat{Op: api.FlTest, E: 0, To: 2}, api.Flat{Op: api.FlJump, To: 0}))
	wantFlat(t, "thread t { print 9; while (5) { print 1; } }", thread(nil, api.Flat{Op: api.FlPrint, E: 0}, api.Flat{Op: api.FlTest, E: 1, To: 4}, api.Flat{Op: api.FlPrint, E: 2}, api.Flat{Op: api.FlJump, To: 1}))
	wantFlat(t, "thread t { while (1) { if (2) { while (3) { } } else { print 4; } } }", thread(nil,
		api.Flat{Op: api.FlTest, E: 0, To: 7}, api.Flat{Op: api.FlTest, E: 1, To: 5}, api.Flat{Op: api.FlTest, E: 2, To: 4}, api.Flat{Op: api.FlJump, To: 2},
		api.Flat{Op: api.FlJump, To: 6}, api.Flat{Op: api.FlPrint, E: 3}, api.Flat{Op: api.FlJump, To: 0}))
	wantFlat(t, "lock l; lock k; thread t { with l { } with k { with l { } } }", thread(nil, api.Flat{Op: api.FlAcq, Name: "l"}, api.Flat{Op: api.FlRel, Name: "l"},
		api.Flat{Op: api.FlAcq, Name: "k"}, api.Flat{Op: api.FlAcq, Name: "l"}, api.Flat{Op: api.FlRel, Name: "l"}, api.Flat{Op: api.FlRel, Name: "k"}))
}

// Variables stand in the order of the text, however deep; of each body alone. What is given is flattened in its order.
func TestFlatVars(t *testing.T) {
	l, e := src.Flatten(read(t, "thread b { if (1) { var d = 1; while (0) { var c = 1; } } else { var e = 1; } var a = 1; } extern int h(1) rank 0; int f(c, a) rank 1 { if (c) { var b1 = 2; } } lock l; thread a0 { }"))
	if e != api.OK || len(l) != 3 {
		t.Fatalf("P17.1: %v, error %d", l, e)
	}
	for i, want := range []struct {
		name   string
		params int
		vars   string
	}{{"b", 0, "d c e a"}, {"f", 2, "c a b1"}, {"a0", 0, ""}} {
		if l[i].Name != want.name || l[i].Params != want.params || strings.Join(l[i].Vars, " ") != want.vars {
			t.Errorf("P17.1: %d: %+v; want %+v", i, l[i], want)
		}
	}
}

func TestFlattenErrors(t *testing.T) {
	many := strings.Builder{}
	for i := range 41 {
		many.WriteString("lock l" + strconv.Itoa(i) + ";")
	}
	for s, want := range map[string]api.Errno{"lock l; lock l;": api.ErrDuplicate, "thread t { x = 1; }": api.ErrType, "lock l; int x by l; thread t { with l { } x = 1; }": api.ErrType, many.String(): api.ErrLarge,
		"extern lock l; thread t { with l { } }": api.OK, "int f() rank 1 { }": api.OK, "thread a { } thread b { } thread c { } thread d { } thread e { }": api.OK} {
		m := read(t, s)
		if l, e := src.Flatten(m); e != want || check.Module(m) != want || want != api.OK && len(l) != 0 {
			t.Errorf("P17.1: %.60q: %v, error %d; want %d", s, l, e, want)
		}
	}
	for _, m := range wrong() {
		if l, e := src.Flatten(m); e != api.ErrArg || len(l) != 0 {
			t.Errorf("P17.1: %+v: %v, error %d", m, l, e)
		}
	}
}

// wrong are modules that no source gives.
func wrong() []api.Module {
	body := []api.Decl{{Kind: api.DeclThread, Name: "t", Body: []int{0}}}
	return []api.Module{
		{Exps: []api.Exp{{Kind: api.ExpNum}}},
		{Decls: []api.Decl{{}}},
		{Decls: body},
		{Decls: body, Stmts: []api.Stmt{{Kind: api.StPrint}}},
		{Decls: body, Stmts: []api.Stmt{{Kind: api.StPrint, E: -1}}},
		{Decls: body, Stmts: []api.Stmt{{Kind: api.StWhile, Body: []int{0}}}, Exps: []api.Exp{{Kind: api.ExpNum}}},
		{Decls: body, Stmts: []api.Stmt{{Kind: api.StPrint}}, Exps: []api.Exp{{Kind: api.ExpOne, Op: "-"}}},
		{Decls: body, Stmts: []api.Stmt{{Kind: api.StPrint, E: 1}}, Exps: []api.Exp{{Kind: api.ExpTwo, Op: "+", L: 1, R: 1}, {Kind: api.ExpTwo, Op: "+"}}},
		{Decls: body, Stmts: []api.Stmt{{Kind: api.StPrint}}, Exps: []api.Exp{{Kind: api.ExpTwo, Op: "?"}}},
		{Decls: body, Stmts: []api.Stmt{{Kind: 99}}},
	}
}

// modelFlatten says where things go by how many operations they have.
func modelFlatten(m api.Module) []api.Body {
	var l []api.Body
	for _, d := range m.Decls {
		if d.Kind < api.DeclFunc || d.Extern {
			continue
		}
		k := modelFlat{m: m, vars: append([]string(nil), d.Params...)}
		k.collect(d.Body)
		code := k.all(d.Body, 0)
		if d.Kind == api.DeclThread {
			code = append(code, api.Flat{Op: api.FlEnd})
		} else {
			code = append(code, api.Flat{Op: api.FlRet, E: -1})
		}
		l = append(l, api.Body{Name: d.Name, Params: d.Count, Vars: k.vars, Code: code})
	}
	return l
}

type modelFlat struct {
	m    api.Module
	vars []string
}

func (k *modelFlat) collect(l []int) {
	for _, i := range l {
		s := k.m.Stmts[i]
		if s.Kind == api.StVar {
			k.vars = append(k.vars, s.Name)
		}
		k.collect(s.Body)
		k.collect(s.Else)
	}
}

func (k *modelFlat) all(l []int, at int) []api.Flat {
	var code []api.Flat
	for _, i := range l {
		code = append(code, k.one(k.m.Stmts[i], at+len(code))...)
	}
	return code
}

func (k *modelFlat) one(s api.Stmt, at int) []api.Flat {
	number := slices.Index(k.vars, s.Name) // -1, of no name
	switch s.Kind {
	case api.StVar, api.StSet:
		if number < 0 {
			return []api.Flat{{Op: api.FlSetG, Name: s.Name, I: -1, E: s.E}}
		}
		return []api.Flat{{Op: api.FlSet, A: number, E: s.E}}
	case api.StSetAt:
		return []api.Flat{{Op: api.FlSetG, Name: s.Name, I: s.I, E: s.E}}
	case api.StCall, api.StGet, api.StPut:
		return []api.Flat{{Op: s.Kind - api.StCall + api.FlCall, A: number, Name: s.Fun, Args: s.Args, E: s.E}}
	case api.StIf:
		body := k.all(s.Body, at+1)
		if len(s.Else) == 0 {
			return append([]api.Flat{{Op: api.FlTest, E: s.E, To: at + 1 + len(body)}}, body...)
		}
		other := k.all(s.Else, at+2+len(body))
		code := append([]api.Flat{{Op: api.FlTest, E: s.E, To: at + 2 + len(body)}}, body...)
		return append(append(code, api.Flat{Op: api.FlJump, To: at + 2 + len(body) + len(other)}), other...)
	case api.StWhile:
		body := k.all(s.Body, at+1)
		return append(append([]api.Flat{{Op: api.FlTest, E: s.E, To: at + 2 + len(body)}}, body...), api.Flat{Op: api.FlJump, To: at})
	case api.StWith:
		return append(append([]api.Flat{{Op: api.FlAcq, Name: s.Name}}, k.all(s.Body, at+1)...), api.Flat{Op: api.FlRel, Name: s.Name})
	}
	return []api.Flat{{Op: s.Kind - api.StPrint + api.FlPrint, E: s.E}}
}

func TestFlattenModel(t *testing.T) {
	ops := map[int]int{}
	for seed := range int64(800) {
		for _, m := range modules(t, rand.New(rand.NewSource(seed))) {
			want := modelFlatten(m)
			if l, e := src.Flatten(m); e != api.OK || !reflect.DeepEqual(bare(l), bare(want)) {
				t.Fatalf("P17.1: seed %d: %+v, error %d; want %+v", seed, l, e, want)
			}
			for _, b := range want {
				for _, op := range b.Code {
					ops[op.Op]++
				}
			}
		}
	}
	for op := api.FlSet; op <= api.FlEnd; op++ {
		if ops[op] < 100 {
			t.Errorf("operation %d was made up %d times", op, ops[op])
		}
	}
}

// spoil overwrites a list with all its spare room.
func spoil[T any](l []T, with T) {
	l = l[:cap(l)]
	for i := range l {
		l[i] = with
	}
}

// What is answered is new memory: spoiling one list turns no other one, nor the module, nor another answer.
func TestFlattenMemory(t *testing.T) {
	const s = "extern int f(2) rank 1; int g(p, r) rank 2 { f(1, 2); f(3, p); } thread t { var v = 1; v = f(1, v); while (v) { g(v, 2); } }"
	m, twin := read(t, s), read(t, s)
	want, _ := src.Flatten(twin)
	want = bare(want)
	for body := range want {
		l, _ := src.Flatten(m)
		for op := range want[body].Code {
			again, _ := src.Flatten(m)
			spoil(again[body].Code[op].Args, 99)
			again[body].Code[op].Args = want[body].Code[op].Args
			if !reflect.DeepEqual(bare(again), want) || !reflect.DeepEqual(m, twin) {
				t.Fatalf("R5: Args of %d, %d are shared", body, op)
			}
		}
		spoil(l[body].Vars, "spoilt")
		l[body].Vars = want[body].Vars
		if !reflect.DeepEqual(bare(l), want) || !reflect.DeepEqual(m, twin) {
			t.Fatalf("R5: Vars of %d are shared", body)
		}
		spoil(l[body].Code, api.Flat{Op: 99})
		l[body].Code = want[body].Code
		if !reflect.DeepEqual(bare(l), want) || !reflect.DeepEqual(m, twin) {
			t.Fatalf("R5: Code of %d is shared", body)
		}
		spoil(l, api.Body{Name: "spoilt"})
		if again, _ := src.Flatten(m); !reflect.DeepEqual(bare(again), want) || !reflect.DeepEqual(m, twin) {
			t.Fatal("R5: the bodies are kept")
		}
	}
	// What is handed in may be spoilt then.
	l, _ := src.Flatten(m)
	for _, st := range m.Stmts {
		spoil(st.Args, 77)
	}
	for _, d := range m.Decls {
		spoil(d.Params, "spoilt")
	}
	if !reflect.DeepEqual(bare(l), want) {
		t.Error("R5: the module is kept")
	}
}
