package check_test

import (
	"math"
	"reflect"
	"slices"
	"testing"

	"cotter/api"
	"cotter/check"
)

// wantFit wants Fit to answer that of modules, in each order, twice; the model must agree.
func wantFit(t *testing.T, want api.Errno, sources ...string) {
	t.Helper()
	var l []api.Module
	for _, s := range sources {
		l = append(l, read(t, s))
	}
	for range max(1, len(l)) {
		for range 2 {
			if e := check.Fit(l...); e != want {
				t.Errorf("P16.3: %.300q: error %d; want %d", sources, e, want)
			}
			slices.Reverse(l)
			if e := check.Fit(l...); e != want {
				t.Errorf("P16.4: %.300q from the end: error %d; want %d", sources, e, want)
			}
			slices.Reverse(l)
		}
		if e := modelFit(l); e != want {
			t.Errorf("the model: %.300q: error %d; want %d", sources, e, want)
		}
		if len(l) > 0 {
			l = append(l[1:], l[0])
		}
	}
}

func TestFitTogether(t *testing.T) {
	wantFit(t, api.OK, "thread t { }")
	wantFit(t, api.OK, "thread t { }", "")
	wantFit(t, api.OK, "lock l; int x by l; int f(p) rank 1 { return p; } thread t { }", "extern lock l; extern int x by l; extern int f(1) rank 1; thread u { var v = 0; v = f(1); with l { x = v; } }")
	wantFit(t, api.OK, "ticket l;", "extern lock l; thread t { with l { } }", "extern ticket l; thread u { with l { } }")
	wantFit(t, api.OK, "lock l;", "extern ticket l; thread t { with l { } }")
	// In a circle, and by a third one.
	wantFit(t, api.OK, "lock l; extern lock k; thread t { with k { } }", "extern lock l; ticket k; thread u { with l { } }")
	wantFit(t, api.OK, "lock l;", "extern lock l; int x by l;", "extern lock l; extern int x by l; thread t { with l { x = 1; } }")
	wantFit(t, api.OK, "lock l; int f() with l rank 2 { }", "extern lock l; extern int f(0) with l rank 2; thread t { with l { f(); } }")
	// Two modules may have the same inside: parameters, variables, and what they need.
	wantFit(t, api.OK, "queue q 1; int f(p) rank 1 { var v = p; } thread t { }", "extern queue q 1; int g(p) rank 1 { var v = p; } thread u { var p = 1; }", "extern queue q 1; thread w { var v = 1; }")
}

func TestFitMany(t *testing.T) {
	wantFit(t, api.OK, "thread t { }", "", "", "", "", "", "", "")
	if e := check.Fit(make([]api.Module, 9)...); e != api.ErrArg {
		t.Errorf("P16.3: 9 modules: error %d", e)
	}
	if e := check.Fit(make([]api.Module, 8)...); e != api.ErrLarge {
		t.Errorf("P16.3: 8 modules without threads: error %d", e)
	}
	wantFit(t, api.ErrArg, "thread t { }", "", "", "", "", "", "", "", "")
	for _, s := range []string{"lock l; lock l;", "thread t { x = 1; }", several(41, "lock l#;"), "extern lock l;"} {
		wantFit(t, api.ErrArg, s, s, s, s, s, s, s, s, s)
		wantFit(t, api.ErrArg, s, "", "", "", "", "", "", "", "", "", "")
	}
	if e := check.Fit(make([]api.Module, 1<<16)...); e != api.ErrArg {
		t.Errorf("P16.3: many modules: error %d", e)
	}
	if e := check.Fit(); e != api.ErrLarge {
		t.Errorf("P16.3: no modules: error %d", e)
	}
	if e := check.Fit([]api.Module{}...); e != api.ErrLarge {
		t.Errorf("P16.3: no modules: error %d", e)
	}
}

func TestFitThreads(t *testing.T) {
	for n := 1; n <= 4; n++ {
		wantFit(t, api.OK, several(n, "thread t# { }"))
		wantFit(t, api.OK, several(n, "thread t# { }"), "lock l;")
	}
	wantFit(t, api.OK, "thread a { }", "thread b { }", "thread c { }", "thread d { }")
	wantFit(t, api.OK, "thread a { } thread b { }", "thread c { } thread d { }")
	wantFit(t, api.ErrLarge, several(5, "thread t# { }"))
	wantFit(t, api.ErrLarge, several(40, "thread t# { }"))
	wantFit(t, api.ErrLarge, "thread a { }", "thread b { }", "thread c { }", "thread d { }", "thread e { }")
	wantFit(t, api.ErrLarge, several(4, "thread t# { }"), "lock l; thread u { }")
	wantFit(t, api.ErrLarge)
	wantFit(t, api.ErrLarge, "")
	wantFit(t, api.ErrLarge, "lock l;", "extern lock l; int x by l;")
	wantFit(t, api.ErrLarge, "int f() rank 1 { print 1; }")
}

// The first module's error is told, whatever it is.
func TestFitModules(t *testing.T) {
	errors := map[string]api.Errno{"lock l; lock l;": api.ErrDuplicate, "queue q 9;": api.ErrType, several(41, "lock l#;"): api.ErrLarge}
	wrong := api.Module{Exps: []api.Exp{{}}}
	for a, want := range errors {
		wantFit(t, want, a)
		wantFit(t, want, a, "thread t { }")
		wantFit(t, want, a, "extern lock none;", "thread t { }", "thread t { }")
		for b := range errors {
			if e := check.Fit(read(t, "thread t { }"), read(t, a), read(t, b)); e != want {
				t.Errorf("P16.3: %.40q, %.40q: error %d; want %d", a, b, e, want)
			}
		}
		if e := check.Fit(read(t, a), wrong); e != want {
			t.Errorf("P16.3: %.40q: error %d; want %d", a, e, want)
		}
		if e := check.Fit(read(t, "lock l;"), wrong, read(t, a)); e != api.ErrArg {
			t.Errorf("P16.3: %.40q: error %d; want %d", a, e, api.ErrArg)
		}
	}
}

func TestFitDuplicate(t *testing.T) {
	forms := []string{"lock n;", "ticket n;", "queue n 1;", "extern lock l; int n by l;", "int n() rank 1 { }", "thread n { }"}
	for _, a := range forms {
		for _, b := range forms {
			wantFit(t, api.ErrDuplicate, a, b, "lock l; thread t { }")
			wantFit(t, api.ErrDuplicate, a, "thread t { }", "extern lock none; extern queue t 1;", b) // ahead of what lacks, and of what differs
			wantFit(t, api.ErrDuplicate, a, b, several(5, "thread t# { }"))
		}
	}
}

func TestFitUndefined(t *testing.T) {
	forms := []string{"extern lock n;", "extern ticket n;", "extern queue n 1;", "extern lock l; extern int n by l;", "extern int n(0) rank 1;"}
	for _, a := range forms {
		wantFit(t, api.ErrUndefined, a)
		wantFit(t, api.ErrUndefined, a, "lock l; thread t { }")
		wantFit(t, api.ErrUndefined, a, a, "lock l; thread t { var n = 1; }", "int f(n) rank 1 { }")
		wantFit(t, api.ErrUndefined, a, "lock l; thread t { }", "extern queue l 1;") // ahead of what differs
		wantFit(t, api.ErrUndefined, "lock l; lock z; thread t { }", "extern queue z 1; "+a)
		wantFit(t, api.ErrUndefined, a, "lock l;", several(5, "thread t# { }"))
	}
}

// Each given one against each needed one: they differ unless all of the face is the same.
func TestFitInterface(t *testing.T) {
	const locks = "extern lock l; extern lock k; "
	gives := []string{"lock n;", "ticket n;", "queue n 1;", "queue n 2;", "int n by l;", "int n by k;", "int n[1] by l;", "int n[2] by l;", "int n[2] by k;", "int n() rank 1 { }", "int n(a) rank 1 { }", "int n(b) rank 1 { print b; }", "int n(a) rank 2 { }", "int n(a) with l rank 1 { }", "int n(a) with k rank 1 { }", "thread n { }"}
	needs := []string{"extern lock n;", "extern lock n;", "extern queue n 1;", "extern queue n 2;", "extern int n by l;", "extern int n by k;", "extern int n[1] by l;", "extern int n[2] by l;", "extern int n[2] by k;", "extern int n(0) rank 1;", "extern int n(1) rank 1;", "extern int n(1) rank 1;", "extern int n(1) rank 2;", "extern int n(1) with l rank 1;", "extern int n(1) with k rank 1;"}
	for i, g := range gives {
		for j, n := range needs {
			want := api.ErrInterface
			if i < len(needs) && needs[i] == needs[j] {
				want = api.OK
			}
			wantFit(t, want, locks+g, locks+n, "lock l; ticket k; thread t { }")
			if want == api.ErrInterface {
				wantFit(t, want, locks+g, locks+n, "lock l; lock k;") // ahead of no threads
				wantFit(t, want, locks+g, locks+n, "lock l; lock k;"+several(5, "thread t# { }"))
			}
			// One that is the same does not help another one.
			wantFit(t, want, locks+g, locks+needs[min(i, len(needs)-1)], locks+n, "lock l; lock k; thread t { }")
		}
	}
}

// A module that gives all that it uses goes alone, if it has threads.
func TestFitAlone(t *testing.T) {
	const s = "lock l; ticket k; queue q 8; int x by l; int a[64] by k; int f(p) with l rank 1 { x = p; return x; } int g() rank 2 { with l { f(1); } } "
	wantFit(t, api.OK, s+"thread t { g(); put(q, 1); }")
	wantFit(t, api.OK, s+several(4, "thread t# { with k { a[1] = 2; } }"))
	wantFit(t, api.ErrLarge, s)
}

// The order of modules turns nothing.
func TestFitOrders(t *testing.T) {
	wantOrders := func(want api.Errno, sources ...string) {
		t.Helper()
		l := make([]api.Module, len(sources))
		for i, s := range sources {
			l[i] = read(t, s)
		}
		var turn func(n int)
		turn = func(n int) {
			if n == len(l) {
				if e := check.Fit(l...); e != want {
					t.Errorf("P16.4: %.300q: error %d; want %d", sources, e, want)
				}
			}
			for i := n; i < len(l); i++ {
				l[n], l[i] = l[i], l[n]
				turn(n + 1)
				l[n], l[i] = l[i], l[n]
			}
		}
		turn(0)
	}
	wantOrders(api.OK, "lock l;", "extern lock l; int x by l;", "extern lock l; extern int x by l; thread t { with l { x = 1; } }", "thread u { }", "extern lock l; thread v { with l { } }")
	wantOrders(api.ErrDuplicate, "lock l;", "ticket l;", "extern queue l 2;", "extern lock none;", "thread t { }")
	wantOrders(api.ErrUndefined, "lock l;", "extern queue l 2;", "extern lock none;", "thread t { }")
	wantOrders(api.ErrInterface, "lock l;", "extern queue l 2;", "extern lock l;", several(5, "thread t# { }"))
	wantOrders(api.ErrLarge, "lock l;", "extern lock l;", "thread t { } thread u { }", "thread v { } thread w { } thread x { }")
}

// What is handed in is not changed.
func TestFitLeaves(t *testing.T) {
	a, b := "lock l; int f(p) rank 1 { return p; } thread t { with l { f(1); } }", "extern lock l; thread u { with l { } }"
	l, twin := []api.Module{read(t, b), read(t, a), {}}, []api.Module{read(t, b), read(t, a), {}}
	if e := check.Fit(l[:2]...); e != api.OK {
		t.Errorf("P16.3: error %d", e)
	}
	check.Face(l[1])
	if !reflect.DeepEqual(l, twin) {
		t.Errorf("R5: %+v; was %+v", l, twin)
	}
}

func wantFace(t *testing.T, m api.Module, want ...api.Decl) {
	t.Helper()
	for range 2 {
		l := check.Face(m)
		if len(l) != len(want) || len(want) > 0 && !reflect.DeepEqual(l, want) {
			t.Fatalf("P16.2: %+v: %+v; want %+v", m, l, want)
		}
		l = l[:cap(l)]
		for i := range l {
			l[i] = api.Decl{Name: "spoilt"} // R5: the next answer is not this memory
		}
	}
}

func TestFace(t *testing.T) {
	wantFace(t, api.Module{})
	wantFace(t, read(t, "extern queue q 1; ticket l;"), api.Decl{Kind: api.DeclLock, Name: "l"}, api.Decl{Kind: api.DeclQueue, Name: "q", Extern: true, N: 1})
	wantFace(t, read(t, "extern lock a; lock b; extern int c(2) with a rank 3; ticket d; extern int e by a; int f(p, w) with b rank 4 { print 1; } extern queue g 5; int h[6] by d; extern int i[7] by a; thread j { print 2; } int k by a; queue m 8; extern int n(0) rank 0; thread o { }"),
		api.Decl{Kind: api.DeclLock, Name: "b"},
		api.Decl{Kind: api.DeclLock, Name: "d"},
		api.Decl{Kind: api.DeclFunc, Name: "f", By: "b", Count: 2, Rank: 4},
		api.Decl{Kind: api.DeclInt, Name: "h", N: 6, By: "d"},
		api.Decl{Kind: api.DeclThread, Name: "j"},
		api.Decl{Kind: api.DeclInt, Name: "k", By: "a"},
		api.Decl{Kind: api.DeclQueue, Name: "m", N: 8},
		api.Decl{Kind: api.DeclThread, Name: "o"},
		api.Decl{Kind: api.DeclLock, Name: "a", Extern: true},
		api.Decl{Kind: api.DeclFunc, Name: "c", Extern: true, By: "a", Count: 2, Rank: 3},
		api.Decl{Kind: api.DeclInt, Name: "e", Extern: true, By: "a"},
		api.Decl{Kind: api.DeclQueue, Name: "g", Extern: true, N: 5},
		api.Decl{Kind: api.DeclInt, Name: "i", Extern: true, N: 7, By: "a"},
		api.Decl{Kind: api.DeclFunc, Name: "n", Extern: true})
}

// Also of modules that may not be.
func TestFaceOfAny(t *testing.T) {
	odd := api.Decl{Kind: 77, Name: "no name", N: -5, By: "by", Params: []string{"p"}, Count: math.MinInt, Rank: math.MaxInt, Body: []int{-1, 9}}
	plain := api.Decl{Kind: 77, Name: "no name", N: -5, By: "by", Count: math.MinInt, Rank: math.MaxInt}
	needed := api.Decl{Kind: api.DeclTicket, Extern: true, N: 3, Params: []string{}, Body: []int{}}
	wantFace(t, api.Module{Decls: []api.Decl{needed, odd, {}, needed}, Stmts: make([]api.Stmt, 2), Exps: make([]api.Exp, 3)},
		plain, api.Decl{}, api.Decl{Kind: api.DeclLock, Extern: true, N: 3}, api.Decl{Kind: api.DeclLock, Extern: true, N: 3})
	for kind := -1; kind <= 7; kind++ {
		want := kind
		if kind == api.DeclTicket {
			want = api.DeclLock
		}
		wantFace(t, api.Module{Decls: []api.Decl{{Kind: kind, Name: "n"}, {Kind: kind, Name: "n"}}}, api.Decl{Kind: want, Name: "n"}, api.Decl{Kind: want, Name: "n"})
		wantFace(t, api.Module{Decls: []api.Decl{{Kind: kind, Name: "n", Extern: true}}}, api.Decl{Kind: want, Name: "n", Extern: true})
	}
	many := api.Module{Decls: make([]api.Decl, 100000)}
	many.Decls[0].Extern = true
	if l := check.Face(many); len(l) != 100000 || !l[99999].Extern || l[0].Extern {
		t.Errorf("P16.2: %d", len(l))
	}
}
