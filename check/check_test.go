package check_test

import (
	"math/rand"
	"reflect"
	"strconv"
	"strings"
	"testing"

	"cotter/api"
	"cotter/check"
	"cotter/parse"
)

// The calls have the types that the chapter lists.
var (
	_ func(api.Module) api.Errno    = check.Module
	_ func(api.Module) []api.Decl   = check.Face
	_ func(...api.Module) api.Errno = check.Fit
)

func read(t *testing.T, s string) api.Module {
	t.Helper()
	m, e := parse.Parse(s)
	if e != api.OK {
		t.Fatalf("%.300q: error %d", s, e)
	}
	return m
}

// wantModule wants Module to answer that, twice, and the model to agree.
func wantModule(t *testing.T, s string, want api.Errno) {
	t.Helper()
	m, twin := read(t, s), read(t, s)
	for range 2 {
		if e := check.Module(m); e != want {
			t.Errorf("P16.1: %.400q: error %d; want %d", s, e, want)
		}
	}
	if !reflect.DeepEqual(m, twin) {
		t.Errorf("R5: %.300q is changed", s)
	}
	if e := modelModule(m); e != want {
		t.Errorf("the model: %.300q: error %d; want %d", s, e, want)
	}
}

// front has one of each.
const front = "lock l; ticket k; extern lock e; queue q 2; extern queue r 1; int x by l; int y by k; extern int z by e; int a[4] by l; extern int b[1] by e; int f(p) rank 1 { return p; } int g(p, w) with l rank 3 { return p; } extern int h(0) with e rank 9; extern int i(1) rank 0; thread t { } "

func good(t *testing.T, l ...string) {
	t.Helper()
	for _, s := range l {
		wantModule(t, front+s, api.OK)
	}
}

func bad(t *testing.T, l ...string) {
	t.Helper()
	for _, s := range l {
		wantModule(t, front+s, api.ErrType)
	}
}

// inside are statements in a thread of its own.
func inside(l ...string) []string {
	for i, s := range l {
		l[i] = "thread own { " + s + " }"
	}
	return l
}

func TestExample(t *testing.T) {
	wantModule(t, "lock l; int x by l; thread t { with l { x = 1; } }", api.OK)
	wantModule(t, "lock l; int x by l; thread t { with l { } x = 1; }", api.ErrType)
	wantModule(t, "extern lock l; thread t { with l { } }", api.OK)
	wantFit(t, api.ErrUndefined, "extern lock l; thread t { with l { } }")
	wantModule(t, "", api.OK)
	wantModule(t, front, api.OK)
}

// What no source gives is ErrArg, whatever else is wrong with it.
func TestArg(t *testing.T) {
	lock := api.Decl{Kind: api.DeclLock, Name: "l"}
	many := make([]api.Decl, 50)
	for i := range many {
		many[i] = api.Decl{Kind: api.DeclLock, Name: "l", N: 1}
	}
	for i, m := range []api.Module{
		{Exps: []api.Exp{{Kind: api.ExpNum}}},
		{Decls: []api.Decl{{}}},
		{Decls: []api.Decl{{Kind: api.DeclLock, Name: "lock"}}},
		{Decls: []api.Decl{lock, lock, {Kind: api.DeclQueue, Name: "q", N: -1}}},
		{Decls: []api.Decl{{Kind: api.DeclTicket, Name: "l", Extern: true}}},
		{Decls: []api.Decl{{Kind: api.DeclThread, Name: "t", Body: []int{0}}}},
		{Decls: []api.Decl{{Kind: api.DeclThread, Name: "t", Body: []int{0}}}, Stmts: []api.Stmt{{Kind: api.StWith, Name: "l", Body: []int{0}}}},
		{Decls: []api.Decl{{Kind: api.DeclThread, Name: "t", Body: []int{0}}}, Stmts: []api.Stmt{{Kind: api.StPrint}}, Exps: []api.Exp{{Kind: api.ExpOne, Op: "-"}}},
		{Decls: []api.Decl{{Kind: api.DeclThread, Name: "t", Body: []int{-1}}}},
		{Decls: many},
		{Decls: make([]api.Decl, 1<<20)},
		read(t, "thread t{print 0"+strings.Repeat("+abcdefghijkl", 1400)+";}"), // its plain text is too long
	} {
		if _, e := parse.Print(m); e != api.ErrArg {
			t.Fatalf("%d: error %d", i, e)
		}
		for range 2 {
			if e := check.Module(m); e != api.ErrArg {
				t.Errorf("P16.1: %d: error %d; want %d", i, e, api.ErrArg)
			}
		}
		if e := check.Fit(m); e != api.ErrArg {
			t.Errorf("P16.3: %d: error %d; want %d", i, e, api.ErrArg)
		}
	}
}

// several are n declarations, each with its number for a #.
func several(n int, form string) string {
	var b strings.Builder
	for i := range n {
		b.WriteString(strings.ReplaceAll(form, "#", strconv.Itoa(i)) + "\n")
	}
	return b.String()
}

func TestLarge(t *testing.T) {
	bodies := []string{"int f#() rank 1 { }", "extern int f#(1) rank 1;", "thread f# { }"}
	others := []string{"lock l#;", "extern lock l#;", "ticket l#;", "queue l# 1;", "extern queue l# 1;", "int l# by l0;", "extern int l#[2] by l0;"}
	for _, form := range bodies {
		wantModule(t, several(40, form), api.OK)
		wantModule(t, several(41, form), api.ErrLarge)
		wantModule(t, several(40, form)+several(40, "lock l#;"), api.OK)
		wantModule(t, several(40, form)+several(41, "lock l#;"), api.ErrLarge)
		wantModule(t, several(39, form)+"int x() rank 0 { }", api.OK)
		wantModule(t, several(40, form)+"int x() rank 0 { }", api.ErrLarge)
		wantModule(t, several(40, form)+"thread x { }", api.ErrLarge)
		wantModule(t, several(40, form)+"extern int x(0) rank 1;", api.ErrLarge)
		wantModule(t, several(40, form)+"lock x;", api.OK)
	}
	for _, form := range others {
		first := "lock l0;"
		rest := func(n int) string {
			return strings.ReplaceAll(several(n, strings.ReplaceAll(form, "l#", "m#")), "by m0", "by l0")
		}
		wantModule(t, first+rest(39), api.OK)
		wantModule(t, first+rest(40), api.ErrLarge)
		wantModule(t, first+rest(39)+several(40, "thread t# { }"), api.OK)
		wantModule(t, first+rest(39)+several(41, "thread t# { }"), api.ErrLarge)
		wantModule(t, first+rest(38)+"int x by l0;", api.OK)
		wantModule(t, first+rest(39)+"int x by l0;", api.ErrLarge)
		wantModule(t, first+rest(39)+"queue x 1;", api.ErrLarge)
		wantModule(t, first+rest(39)+"ticket x;", api.ErrLarge)
		wantModule(t, first+rest(39)+"int x() rank 1 { }", api.OK)
	}
}

func TestDuplicate(t *testing.T) {
	forms := []string{"lock n;", "extern lock n;", "ticket n;", "queue n 1;", "extern queue n 1;", "int n by l;", "int n[2] by l;", "extern int n by l;", "int n() rank 1 { }", "int n(p) rank 1 { }", "extern int n(0) rank 1;", "thread n { }"}
	for _, a := range forms {
		wantModule(t, "lock l; "+a, api.OK)
		for _, b := range forms {
			wantModule(t, "lock l; "+a+b, api.ErrDuplicate)
			wantModule(t, "lock l; "+a+"thread mid { } "+b, api.ErrDuplicate)
			wantModule(t, "lock l; "+a+strings.NewReplacer(" n", " N").Replace(b), api.OK)
		}
	}
}

// Of two errors the chapter's first one is told, wherever they stand.
func TestTwoErrors(t *testing.T) {
	wrong := []string{"queue w 9;", "int w by nolock;", "thread w { x = 1; }", "int w() rank 10 { }"}
	for _, w := range wrong {
		for _, s := range []string{"lock d; lock d;", "lock d; thread d { }", "extern int d(1) rank 0; queue d 1;"} {
			wantModule(t, w+s, api.ErrDuplicate)
			wantModule(t, s+w, api.ErrDuplicate)
			for _, many := range []string{several(41, "lock l#;"), several(41, "thread t# { }"), several(41, "queue q# 0;"), several(41, "lock same;"), several(41, "int same() rank 11 { }")} {
				wantModule(t, w+s+many, api.ErrLarge)
				wantModule(t, many+s+w, api.ErrLarge)
			}
		}
	}
}

func TestQueuesAndGlobals(t *testing.T) {
	for _, extern := range []string{"", "extern "} {
		for n, want := range map[int]api.Errno{0: api.ErrType, 1: api.OK, 2: api.OK, 7: api.OK, 8: api.OK, 9: api.ErrType, 10: api.ErrType, 1000000: api.ErrType} {
			wantModule(t, extern+"queue n "+strconv.Itoa(n)+";", want)
		}
		for n, want := range map[int]api.Errno{1: api.OK, 2: api.OK, 63: api.OK, 64: api.OK, 65: api.ErrType, 66: api.ErrType, 1000000: api.ErrType} {
			wantModule(t, "lock l; "+extern+"int n["+strconv.Itoa(n)+"] by l;", want)
		}
		for _, by := range []string{"l", "k", "e"} {
			good(t, extern+"int n by "+by+";", extern+"int n[1] by "+by+";")
		}
		for _, by := range []string{"q", "r", "x", "a", "z", "f", "h", "t", "n", "none"} {
			bad(t, extern+"int n by "+by+";", extern+"int n[1] by "+by+";")
		}
	}
	// The lock may stand behind.
	wantModule(t, "int x by l; int f() with l rank 1 { x = 1; } thread t { with l { f(); } } lock l;", api.OK)
}

func TestFunctions(t *testing.T) {
	for _, by := range []string{"l", "k", "e"} {
		good(t, "int n() with "+by+" rank 1 { }", "extern int n(2) with "+by+" rank 1;")
	}
	for _, by := range []string{"q", "r", "x", "a", "z", "f", "h", "t", "n", "none"} {
		bad(t, "int n() with "+by+" rank 1 { }", "extern int n(2) with "+by+" rank 1;")
	}
	good(t, "int n() rank 0 { }", "int n() rank 9 { }", "extern int n(0) rank 0;", "extern int n(0) rank 9;", "int n(c, d, m, o) rank 1 { }", "extern int n(4) rank 1;")
	bad(t, "int n() rank 10 { }", "int n() rank 11 { }", "int n() rank 1000000 { }", "extern int n(0) rank 10;", "extern int n(0) rank 1000000;", "int n(c, d, m, o, s) rank 1 { }", "extern int n(5) rank 1;", "extern int n(1000000) rank 1;")
}

func TestVariables(t *testing.T) {
	good(t, "int n(c) rank 1 { var d = 1; }", "int n(c) rank 1 { } int m(c) rank 1 { } thread o { var c = 1; }", "thread o { if (1) { var v = 1; } else { var w = 2; } }")
	bad(t, "int n(c, c) rank 1 { }", "int n(c, d, c) rank 1 { }", "int n(c) rank 1 { var c = 1; }", "thread o { var v = 1; var v = 2; }", "thread o { if (1) { var v = 1; } else { var v = 2; } }", "thread o { while (1) { var v = 1; } with l { var v = 1; } }")
	for _, name := range []string{"l", "k", "e", "q", "r", "x", "a", "z", "b", "f", "g", "h", "i", "t", "own"} {
		bad(t, "int own("+name+") rank 1 { }", "int own(c, "+name+") rank 1 { }", "thread own { var "+name+" = 1; }", "thread own { if (1) { } else { with l { var "+name+" = 1; } } }")
	}
	bad(t, "int own(later) rank 1 { } thread later { }", "thread own { var later = 1; } queue later 1;")
	for n := 23; n <= 26; n++ {
		vars := func(from int) string {
			return several(n, "var v# = #;")[strings.Index(several(n, "var v# = #;"), "var v"+strconv.Itoa(from)+" "):]
		}
		want := api.OK
		if n > 24 {
			want = api.ErrType
		}
		wantModule(t, "thread t { "+vars(0)+" }", want)
		wantModule(t, "int f() rank 1 { "+vars(0)+" }", want)
		wantModule(t, "int f(v0) rank 1 { "+vars(1)+" }", want)
		wantModule(t, "int f(v0, v1, v2, v3) rank 1 { "+vars(4)+" }", want)
		wantModule(t, "int f(v0, v1, v2, v3) rank 1 { if (1) { "+vars(4)+" } }", want)
		wantModule(t, "int f(c) rank 1 { } thread t { while (1) { "+vars(0)+" } } int g(c) rank 1 { } thread u { "+several(24, "var v# = #;")+" }", want)
	}
}

// sometimes are statements with an expression for a #.
var sometimes = []string{"print #;", "var own1 = #;", "own0 = #;", "f(#);", "own0 = f(#);", "put(q, #);", "own0 = put(q, #);", "if (#) { }", "while (#) { }", "print -#;", "print !#;", "print 1 + #;", "print # + 1;", "print (# * 2) < 3;", "print 1 && (2 || -#);"}

func TestNames(t *testing.T) {
	for _, form := range sometimes {
		in := func(before, e, after string) string {
			return "thread own { var own0 = 1; " + before + strings.ReplaceAll(form, "#", e) + after + " }"
		}
		good(t, in("", "own0", ""), in("", "1", ""), in("with l { ", "x", " }"), in("with k { ", "y", " }"), in("with e { ", "z", " }"), in("with k { with l { if (1) { ", "x", " } } }"), in("with l { with k { } ", "x", " }"), in("if (1) { var v = 1; } ", "v", ""), in("while (1) { if (0) { } else { var v = 1; } } ", "v", ""), in("with l { var v = x; } ", "v", ""))
		bad(t, in("", "v", ""), in("", "v", " var v = 1;"), in("", "x", ""), in("with k { ", "x", " }"), in("with l { } ", "x", ""), in("with l { with k { } } ", "x", ""), in("with l { ", "y", " }"), in("with l { ", "a", " }"), in("with l { ", "l", " }"), in("", "q", ""), in("", "f", ""), in("", "t", ""), in("", "own", ""), in("", "p", ""), in("", "z", ""), in("with l { ", "b", " }"))
		// of arrays
		good(t, in("with l { ", "a[1]", " }"), in("with e { ", "b[own0]", " }"), in("with l { ", "a[x]", " }"), in("with l { with e { ", "a[b[a[x]]]", " } }"), in("with l { ", "a[100]", " }"), in("with l { ", "a[-x + own0]", " }"))
		bad(t, in("", "a[1]", ""), in("with k { ", "a[1]", " }"), in("with l { ", "x[1]", " }"), in("", "own0[1]", ""), in("with l { ", "l[1]", " }"), in("with l { ", "a[v]", " }"), in("with l { ", "a[a]", " }"), in("with l { ", "a[y]", " }"), in("with l { ", "b[1]", " }"), in("", "q[1]", ""), in("", "f[1]", ""), in("", "none[1]", ""), in("with l { ", "a[b[1]]", " }"))
	}
	good(t, "int n(c) rank 1 { return c; }", "int n(c) with l rank 1 { return c + x + a[x]; }", "int n(c) with e rank 1 { with l { print z + x; } return z; }")
	bad(t, "int n(c) rank 1 { return d; }", "int n(c) rank 1 { return x; }", "int n(c) with k rank 1 { return x; }", "int n(c) with l rank 1 { return p; }", "int n(c) rank 1 { } thread own { print c; }", "int n(c) rank 1 { var v = 1; } int m() rank 1 { return v; }", "thread own { with l { return x; } }")
	bad(t, inside("var v = v;", "var v = 1 + v;", "while (v) { var v = 1; }", "if (1) { print v; } else { var v = 1; }", "f(v); var v = 1;")...)
	good(t, inside("if (1) { var v = 1; } else { print v; }", "var v = 1; var w = v;", "while (1) { var v = 1; print v; }")...)
}

func TestSets(t *testing.T) {
	good(t, inside("var v = 1; v = 2;", "with l { x = 1; }", "with e { z = z; }", "with l { if (1) { while (2) { x = 1; } } }", "if (1) { var v = 1; } v = 2;", "with l { a[1] = 2; }", "with e { b[0] = 1; }", "with l { a[x] = a[a[x]]; }", "with l { with k { x = y; a[y] = x; } }")...)
	bad(t, inside("v = 1;", "v = 1; var v = 1;", "x = 1;", "with k { x = 1; }", "with l { } x = 1;", "with l { y = 1; }", "with l { a = 1; }", "l = 1;", "with l { l = 1; }", "q = 1;", "f = 1;", "t = 1;", "own = 1;", "p = 1;", "none = 1;", "a[1] = 1;", "with k { a[1] = 1; }", "with l { x[1] = 1; }", "var v = 1; v[1] = 1;", "with l { b[1] = 1; }", "q[1] = 1;", "l[1] = 1;", "f[1] = 1;", "none[1] = 1;", "with l { a[v] = 1; }", "with l { a[1] = v; }", "with l { a[y] = 1; }", "with l { a[1] = y; }", "with l { x = y; }", "var v = 1; v = w;", "with l { x = a; }")...)
	good(t, "int n(c) rank 1 { c = 1; }", "int n() with l rank 1 { x = 1; a[2] = 3; with k { y = x; } x = 2; }")
	bad(t, "int n(c) rank 1 { x = 1; }", "int n(c) with k rank 1 { x = 1; }", "int n(c) with l rank 1 { with k { } y = 1; }", "int n(c) rank 1 { c[1] = 1; }")
}

func TestAnswers(t *testing.T) {
	for _, call := range []string{"f(1)", "get(q)", "put(q, 1)"} {
		good(t, inside(call+";", "var v = 1; v = "+call+";", "if (1) { var v = 1; } v = "+call+";", "with l { var v = 1; while (1) { v = "+call+"; } }")...)
		good(t, "int n(c) rank 2 { c = "+call+"; }")
		bad(t, inside("v = "+call+";", "v = "+call+"; var v = 1;", "with l { x = "+call+"; }", "x = "+call+";", "a = "+call+";", "q = "+call+";", "f = "+call+";", "t = "+call+";", "none = "+call+";", "p = "+call+";", "l = "+call+";")...)
	}
}

func TestCalls(t *testing.T) {
	good(t, inside("f(1);", "i(1);", "with l { g(1, 2); }", "with e { h(); }", "with k { with l { if (1) { g(1, 2); } } }", "with e { with l { h(); g(1, 1 + 1); f(x); } }", "with l { with k { } g(1, 2); }")...)
	bad(t, inside("f();", "f(1, 2);", "i();", "i(1, 2);", "g(1, 2);", "with k { g(1, 2); }", "with l { } g(1, 2);", "with l { g(1); }", "with l { g(); }", "with l { g(1, 2, 3); }", "h();", "with l { h(); }", "with e { h(1); }", "l();", "q();", "q(1);", "x();", "a(1);", "t();", "own();", "none();", "var v = 1; v(1);", "p(1);", "f(v);", "f(x);", "with l { g(x, y); }", "with l { g(v, 1); }", "with l { g(1, v); }", "f(l);")...)
	for rank := range 10 {
		for callee := range 10 {
			want := api.OK
			if callee >= rank {
				want = api.ErrType
			}
			r, c := strconv.Itoa(rank), strconv.Itoa(callee)
			wantModule(t, "int n() rank "+r+" { m(); } int m() rank "+c+" { }", want)
			wantModule(t, "extern int m(1) rank "+c+"; int n() rank "+r+" { if (1) { m(1); } }", want)
			wantModule(t, "int m() rank "+c+" { } thread t { m(); }", api.OK)
		}
		wantModule(t, "int n() rank "+strconv.Itoa(rank)+" { n(); }", api.ErrType)
	}
	good(t, "int n() with l rank 4 { g(1, 2); }", "int n() rank 4 { with l { g(1, 2); } }", "int n() with k rank 4 { with l { g(1, 2); } }", "int n() with l rank 4 { with k { g(1, 2); } g(3, 4); }")
	bad(t, "int n() rank 4 { g(1, 2); }", "int n() with k rank 4 { g(1, 2); }", "int n() with l rank 3 { g(1, 2); }", "int n() with k rank 4 { with l { } g(1, 2); }")
}

func TestQueues(t *testing.T) {
	good(t, inside("get(q);", "get(r);", "put(q, 1);", "put(r, 1);", "with l { put(q, x); get(r); }")...)
	for _, name := range []string{"l", "k", "e", "x", "a", "z", "f", "h", "t", "own", "p", "none", "v"} {
		bad(t, inside("var v = 1; get("+name+");", "var v = 1; put("+name+", 1);", "with l { var v = 1; v = get("+name+"); }", "with l { var v = 1; v = put("+name+", 1); }")...)
	}
	bad(t, inside("put(q, x);", "put(q, v);", "put(q, q);")...)
}

func TestWith(t *testing.T) {
	good(t, inside("with l { }", "with k { }", "with e { }", "with l { with k { with e { } } }", "with l { } with l { }", "with l { with k { } with k { } }", "if (1) { with l { } } else { with l { } } with l { }", "with l { while (1) { with k { } } }")...)
	for _, name := range []string{"q", "r", "x", "a", "z", "f", "g", "h", "t", "own", "p", "none", "v"} {
		bad(t, inside("var v = 1; with "+name+" { }", "with l { if (1) { var v = 1; with "+name+" { } } }")...)
	}
	for _, name := range []string{"l", "k", "e"} {
		bad(t, inside("with "+name+" { with "+name+" { } }", "with "+name+" { if (1) { while (1) { with "+name+" { } } } }", "with "+name+" { with l { with k { with e { with "+name+" { } } } } }")...)
		bad(t, "int n() with "+name+" rank 1 { with "+name+" { } }", "int n() with "+name+" rank 1 { if (1) { } else { with "+name+" { } } }")
		good(t, "int n() rank 1 { with "+name+" { } }")
	}
	good(t, "int n() with l rank 1 { with k { with e { } } with e { } }")
	// What a function holds from the beginning on it holds to its end.
	bad(t, "int n() with l rank 1 { with k { } with l { } }", "int n() with l rank 1 { with k { with l { } } }")
}

func TestReturn(t *testing.T) {
	good(t, "int n() rank 1 { return 1; }", "int n(c) rank 1 { if (1) { return c; } else { while (1) { return 1; } } return 2; }", "int n() with l rank 1 { return x; }", "int n() rank 1 { with l { } return 1; }", "int n() rank 1 { with l { with k { } } return 1; return 2; print 3; }", "int n() rank 1 { }")
	bad(t, "thread own { return 1; }", "thread own { if (1) { return 1; } }", "thread own { with l { return 1; } }", "int n() rank 1 { with l { return 1; } }", "int n() rank 1 { with l { if (1) { return 1; } } }", "int n() rank 1 { with l { with k { } return 1; } }", "int n() with k rank 1 { with l { while (1) { return 1; } } }", "int n() rank 1 { return c; }", "int n() rank 1 { return x; }")
}

// Each body has a scope of its own.
func TestBodies(t *testing.T) {
	good(t, "int n(c) rank 1 { with l { x = c; } } int m(c) rank 1 { with l { x = c; } } thread own { with l { x = 1; } } thread two { var c = 1; with l { x = c; } }")
	bad(t, "int n(c) with l rank 1 { x = c; } thread own { x = 1; }", "int n(c) rank 1 { } int m() rank 1 { c = 1; }", "thread own { var v = 1; } thread two { v = 1; }", "thread own { with l { x = 1; } } thread two { x = 1; }")
}

// Modules that were read, with two of their parts set to something else.
func TestAny(t *testing.T) {
	r := rand.New(rand.NewSource(161))
	counts := map[api.Errno]int{}
	for range 10000 {
		m := read(t, front+"thread own { var v = 1; with l { x = a[v] + x; v = f(1); g(1, v); } if (v) { put(q, v); } else { get(r); } }")
		for range 1 + r.Intn(2) {
			d, s, e := &m.Decls[r.Intn(len(m.Decls))], &m.Stmts[r.Intn(len(m.Stmts))], &m.Exps[r.Intn(len(m.Exps))]
			name := strings.Fields("l k e q r x y z a b f g h i t v p none")[r.Intn(18)]
			switch r.Intn(8) {
			case 0:
				d.Name = name
			case 1:
				d.N = r.Intn(70) - 2
			case 2:
				d.By = name
			case 3:
				d.Rank = r.Intn(14) - 2
			case 4:
				s.Name = name
			case 5:
				s.Fun = name
			case 6:
				e.Name = name
			default:
				s.E, e.L = r.Intn(12)-1, r.Intn(12)-1
			}
		}
		got, want := check.Module(m), modelModule(m)
		if got != want {
			t.Fatalf("P16.1: %+v: error %d; want %d", m, got, want)
		}
		check.Face(m)
		counts[got]++
	}
	for _, e := range []api.Errno{api.OK, api.ErrArg, api.ErrType, api.ErrDuplicate} {
		if counts[e] < 100 {
			t.Errorf("error %d: %d times", e, counts[e])
		}
	}
}
