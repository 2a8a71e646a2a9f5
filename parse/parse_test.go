package parse_test

import (
	"math/rand"
	"reflect"
	"slices"
	"strings"
	"testing"

	"cotter/api"
	"cotter/lex"
	"cotter/parse"
)

// The calls have the types that the chapter lists.
var (
	_ func(string) (api.Module, api.Errno) = parse.Parse
	_ func(api.Module) (string, api.Errno) = parse.Print
)

// equal takes a list that is nil for an empty one.
func equal(a, b api.Module) bool {
	return slices.Equal(a.Exps, b.Exps) &&
		slices.EqualFunc(a.Stmts, b.Stmts, func(x, y api.Stmt) bool { return alike(x, y) }) &&
		slices.EqualFunc(a.Decls, b.Decls, func(x, y api.Decl) bool { return alike(x, y) })
}

func isZero(m api.Module) bool {
	return len(m.Decls) == 0 && len(m.Stmts) == 0 && len(m.Exps) == 0
}

func read(t *testing.T, s string) api.Module {
	t.Helper()
	m, e := parse.Parse(s)
	if e != api.OK {
		t.Fatalf("P15.1: %.300q: error %d", s, e)
	}
	return m
}

// wantModule wants Parse to answer that, twice.
func wantModule(t *testing.T, s string, want api.Module) {
	t.Helper()
	for range 2 {
		m, e := parse.Parse(s)
		if e != api.OK || !equal(m, want) {
			t.Fatalf("P15.1: %.300q: %+v, error %d; want %+v", s, m, e, want)
		}
		spoil(&m) // R5: the next answer is not this memory
	}
}

// spoil overwrites all lists of an answer, their spare room too.
func spoil(m *api.Module) {
	for _, s := range m.Stmts[:cap(m.Stmts)] {
		for _, l := range [][]int{s.Args, s.Body, s.Else} {
			for i := range l[:cap(l)] {
				l[:cap(l)][i] = -7
			}
		}
	}
	for _, d := range m.Decls[:cap(m.Decls)] {
		for i := range d.Body[:cap(d.Body)] {
			d.Body[:cap(d.Body)][i] = -7
		}
		clear(d.Params[:cap(d.Params)])
	}
	clear(m.Decls[:cap(m.Decls)])
	clear(m.Stmts[:cap(m.Stmts)])
	clear(m.Exps[:cap(m.Exps)])
}

func wantError(t *testing.T, s string, want api.Errno) {
	t.Helper()
	m, e := parse.Parse(s)
	if e != want {
		t.Errorf("P15.1: %.300q: error %d; want %d", s, e, want)
	}
	if e != api.OK && !isZero(m) {
		t.Errorf("R3: %.300q: %+v beside an error", s, m)
	}
}

func wantPlain(t *testing.T, s string, want string) {
	t.Helper()
	m := read(t, s)
	for range 2 {
		text, e := parse.Print(m)
		if e != api.OK || text != want {
			t.Errorf("P15.2: %.300q: %.300q, error %d; want %.300q", s, text, e, want)
		}
	}
}

func TestExample(t *testing.T) {
	wantModule(t, "thread t { print 1 + 2 * 3; }", api.Module{
		Decls: []api.Decl{{Kind: api.DeclThread, Name: "t", Body: []int{0}}},
		Stmts: []api.Stmt{{Kind: api.StPrint, E: 4}},
		Exps:  []api.Exp{{Kind: api.ExpNum, N: 1}, {Kind: api.ExpNum, N: 2}, {Kind: api.ExpNum, N: 3}, {Kind: api.ExpTwo, Op: "*", L: 1, R: 2}, {Kind: api.ExpTwo, Op: "+", L: 0, R: 3}},
	})
}

func TestNothing(t *testing.T) {
	for _, s := range []string{"", " ", "\n\t", "// lock l;", "//\n"} {
		wantModule(t, s, api.Module{})
	}
	if s, e := parse.Print(api.Module{}); s != "" || e != api.OK {
		t.Errorf("P15.2: %q, error %d", s, e)
	}
	if s, e := parse.Print(api.Module{Decls: []api.Decl{}, Stmts: []api.Stmt{}, Exps: []api.Exp{}}); s != "" || e != api.OK {
		t.Errorf("P15.2: %q, error %d", s, e)
	}
}

// decls are the declarations that have no body, or an empty one.
func decls() map[string]api.Decl {
	return map[string]api.Decl{
		"lock l ;":                        {Kind: api.DeclLock, Name: "l"},
		"extern lock l ;":                 {Kind: api.DeclLock, Name: "l", Extern: true},
		"ticket k ;":                      {Kind: api.DeclTicket, Name: "k"},
		"queue q 3 ;":                     {Kind: api.DeclQueue, Name: "q", N: 3},
		"queue q 0 ;":                     {Kind: api.DeclQueue, Name: "q"},
		"extern queue q 1000000 ;":        {Kind: api.DeclQueue, Name: "q", Extern: true, N: 1000000},
		"int x by l ;":                    {Kind: api.DeclInt, Name: "x", By: "l"},
		"extern int x by l ;":             {Kind: api.DeclInt, Name: "x", Extern: true, By: "l"},
		"int a [ 4 ] by l ;":              {Kind: api.DeclInt, Name: "a", N: 4, By: "l"},
		"int a [ 1 ] by a ;":              {Kind: api.DeclInt, Name: "a", N: 1, By: "a"},
		"extern int a [ 1000000 ] by l ;": {Kind: api.DeclInt, Name: "a", Extern: true, N: 1000000, By: "l"},
		"int f ( ) rank 0 { }":            {Kind: api.DeclFunc, Name: "f"},
		"int f ( x ) rank 9 { }":          {Kind: api.DeclFunc, Name: "f", Params: []string{"x"}, Count: 1, Rank: 9},
		"int f ( x , y , x ) with l rank 1000000 { }": {Kind: api.DeclFunc, Name: "f", Params: []string{"x", "y", "x"}, Count: 3, By: "l", Rank: 1000000},
		"int f ( a , b , c , d , e , f ) rank 1 { }":  {Kind: api.DeclFunc, Name: "f", Params: []string{"a", "b", "c", "d", "e", "f"}, Count: 6, Rank: 1},
		"extern int f ( 0 ) rank 1 ;":                 {Kind: api.DeclFunc, Name: "f", Extern: true, Rank: 1},
		"extern int f ( 2 ) with l rank 0 ;":          {Kind: api.DeclFunc, Name: "f", Extern: true, Count: 2, By: "l"},
		"extern int f ( 1000000 ) rank 1000000 ;":     {Kind: api.DeclFunc, Name: "f", Extern: true, Count: 1000000, Rank: 1000000},
		"thread t { }": {Kind: api.DeclThread, Name: "t"},
	}
}

func TestDecls(t *testing.T) {
	for s, d := range decls() {
		wantModule(t, s, api.Module{Decls: []api.Decl{d}})
		wantModule(t, s+s, api.Module{Decls: []api.Decl{d, d}})
		wantModule(t, "thread u { }\n"+s+" lock z;", api.Module{Decls: []api.Decl{{Kind: api.DeclThread, Name: "u"}, d, {Kind: api.DeclLock, Name: "z"}}})
		wantPlain(t, s, s)
		wantPlain(t, s+"\n"+s, s+" "+s)
	}
	// Another module's ticket is a lock.
	wantModule(t, "extern ticket k;", api.Module{Decls: []api.Decl{{Kind: api.DeclLock, Name: "k", Extern: true}}})
	wantPlain(t, "extern ticket k;", "extern lock k ;")
}

// inThread is the module of a thread with one statement, of expressions that stand one behind the other.
func inThread(s api.Stmt, exps ...api.Exp) api.Module {
	return api.Module{Decls: []api.Decl{{Kind: api.DeclThread, Name: "t", Body: []int{0}}}, Stmts: []api.Stmt{s}, Exps: exps}
}

func TestStmts(t *testing.T) {
	one, two, x := api.Exp{Kind: api.ExpNum, N: 1}, api.Exp{Kind: api.ExpNum, N: 2}, api.Exp{Kind: api.ExpName, Name: "x"}
	for _, c := range []struct {
		s    string
		stmt api.Stmt
		exps []api.Exp
	}{
		{"var v = 1 ;", api.Stmt{Kind: api.StVar, Name: "v"}, []api.Exp{one}},
		{"v = x ;", api.Stmt{Kind: api.StSet, Name: "v"}, []api.Exp{x}},
		{"v [ 1 ] = 2 ;", api.Stmt{Kind: api.StSetAt, Name: "v", I: 0, E: 1}, []api.Exp{one, two}},
		{"f ( ) ;", api.Stmt{Kind: api.StCall, Fun: "f"}, nil},
		{"f ( x ) ;", api.Stmt{Kind: api.StCall, Fun: "f", Args: []int{0}}, []api.Exp{x}},
		{"f ( x , 1 , 2 , x , 1 ) ;", api.Stmt{Kind: api.StCall, Fun: "f", Args: []int{0, 1, 2, 3, 4}}, []api.Exp{x, one, two, x, one}},
		{"v = f ( ) ;", api.Stmt{Kind: api.StCall, Name: "v", Fun: "f"}, nil},
		{"v = v ( 1 , 2 ) ;", api.Stmt{Kind: api.StCall, Name: "v", Fun: "v", Args: []int{0, 1}}, []api.Exp{one, two}},
		{"get ( q ) ;", api.Stmt{Kind: api.StGet, Fun: "q"}, nil},
		{"v = get ( q ) ;", api.Stmt{Kind: api.StGet, Name: "v", Fun: "q"}, nil},
		{"put ( q , 1 ) ;", api.Stmt{Kind: api.StPut, Fun: "q"}, []api.Exp{one}},
		{"v = put ( q , x ) ;", api.Stmt{Kind: api.StPut, Name: "v", Fun: "q"}, []api.Exp{x}},
		{"if ( 1 ) { }", api.Stmt{Kind: api.StIf}, []api.Exp{one}},
		{"while ( x ) { }", api.Stmt{Kind: api.StWhile}, []api.Exp{x}},
		{"with l { }", api.Stmt{Kind: api.StWith, Name: "l"}, nil},
		{"print x ;", api.Stmt{Kind: api.StPrint}, []api.Exp{x}},
		{"return 2 ;", api.Stmt{Kind: api.StReturn}, []api.Exp{two}},
	} {
		wantModule(t, "thread t { "+c.s+" }", inThread(c.stmt, c.exps...))
		wantPlain(t, "thread t{"+c.s+"}", "thread t { "+c.s+" }")
		fun := inThread(c.stmt, c.exps...)
		fun.Decls[0] = api.Decl{Kind: api.DeclFunc, Name: "f", Rank: 3, Body: []int{0}}
		wantModule(t, "int f() rank 3 { "+c.s+" }", fun)
		wantPlain(t, "int f()rank 3{"+c.s+"}", "int f ( ) rank 3 { "+c.s+" }")
	}
	wantModule(t, "thread t { if (1) { } else { } }", inThread(api.Stmt{Kind: api.StIf}, one))
	wantPlain(t, "thread t { if (1) { } else { } }", "thread t { if ( 1 ) { } }")
}

// Each part stands where it has been read whole.
func TestPlaces(t *testing.T) {
	wantModule(t, "int f(p) rank 1 { if (p) { print 1; while (2) { get(q); } } else { x = 3; } return 4; } lock l; thread t { with l { a[5] = 6; f(7, 8); } put(q, 9); }", api.Module{
		Decls: []api.Decl{
			{Kind: api.DeclFunc, Name: "f", Params: []string{"p"}, Count: 1, Rank: 1, Body: []int{4, 5}},
			{Kind: api.DeclLock, Name: "l"},
			{Kind: api.DeclThread, Name: "t", Body: []int{8, 9}},
		},
		Stmts: []api.Stmt{
			{Kind: api.StPrint, E: 1},
			{Kind: api.StGet, Fun: "q"},
			{Kind: api.StWhile, E: 2, Body: []int{1}},
			{Kind: api.StSet, Name: "x", E: 3},
			{Kind: api.StIf, E: 0, Body: []int{0, 2}, Else: []int{3}},
			{Kind: api.StReturn, E: 4},
			{Kind: api.StSetAt, Name: "a", I: 5, E: 6},
			{Kind: api.StCall, Fun: "f", Args: []int{7, 8}},
			{Kind: api.StWith, Name: "l", Body: []int{6, 7}},
			{Kind: api.StPut, Fun: "q", E: 9},
		},
		Exps: []api.Exp{{Kind: api.ExpName, Name: "p"}, {Kind: api.ExpNum, N: 1}, {Kind: api.ExpNum, N: 2}, {Kind: api.ExpNum, N: 3}, {Kind: api.ExpNum, N: 4}, {Kind: api.ExpNum, N: 5}, {Kind: api.ExpNum, N: 6}, {Kind: api.ExpNum, N: 7}, {Kind: api.ExpNum, N: 8}, {Kind: api.ExpNum, N: 9}},
	})
	wantModule(t, "thread t { a[-b[1] + 2] = !(c < (3)) && d; }", api.Module{
		Decls: []api.Decl{{Kind: api.DeclThread, Name: "t", Body: []int{0}}},
		Stmts: []api.Stmt{{Kind: api.StSetAt, Name: "a", I: 4, E: 10}},
		Exps: []api.Exp{
			{Kind: api.ExpNum, N: 1},
			{Kind: api.ExpIndex, Name: "b", L: 0},
			{Kind: api.ExpOne, Op: "-", L: 1},
			{Kind: api.ExpNum, N: 2},
			{Kind: api.ExpTwo, Op: "+", L: 2, R: 3},
			{Kind: api.ExpName, Name: "c"},
			{Kind: api.ExpNum, N: 3},
			{Kind: api.ExpTwo, Op: "<", L: 5, R: 6},
			{Kind: api.ExpOne, Op: "!", L: 7},
			{Kind: api.ExpName, Name: "d"},
			{Kind: api.ExpTwo, Op: "&&", L: 8, R: 9},
		},
	})
}

// shape is an expression with parentheses round each part.
func shape(m api.Module, i int) string {
	e := m.Exps[i]
	switch e.Kind {
	case api.ExpNum:
		return string(rune('0' + e.N))
	case api.ExpName:
		return e.Name
	case api.ExpIndex:
		return e.Name + "[" + shape(m, e.L) + "]"
	case api.ExpOne:
		return e.Op + "(" + shape(m, e.L) + ")"
	}
	return "(" + shape(m, e.L) + " " + e.Op + " " + shape(m, e.R) + ")"
}

func wantShape(t *testing.T, s string, want string) {
	t.Helper()
	m := read(t, "thread t { print "+s+"; }")
	if got := shape(m, m.Stmts[0].E); got != want || m.Stmts[0].E != len(m.Exps)-1 {
		t.Errorf("P15.1: %s: %s, number %d; want %s", s, got, m.Stmts[0].E, want)
	}
}

// Any two operators: that of the closer level takes the part between them, of one level the one on the left does.
func TestLevels(t *testing.T) {
	for i, first := range levels {
		for j, second := range levels {
			for _, a := range first {
				for _, b := range second {
					left, right := "((x "+a+" y) "+b+" z)", "(x "+a+" (y "+b+" z))"
					if i >= j {
						wantShape(t, "x "+a+" y "+b+" z", left)
						wantPrinted(t, "(x "+a+" y) "+b+" z", "x "+a+" y "+b+" z")
						wantPrinted(t, "x "+a+" (y "+b+" z)", "x "+a+" ( y "+b+" z )")
					} else {
						wantShape(t, "x "+a+" y "+b+" z", right)
						wantPrinted(t, "(x "+a+" y) "+b+" z", "( x "+a+" y ) "+b+" z")
						wantPrinted(t, "x "+a+" (y "+b+" z)", "x "+a+" y "+b+" z")
					}
					wantShape(t, "(x "+a+" y) "+b+" z", left)
					wantShape(t, "x "+a+" (y "+b+" z)", right)
				}
			}
		}
	}
	wantShape(t, "1 || 2 && 3 | 4 ^ 5 & 6 == 7 < 8 << 9 + a * b", "(1 || (2 && (3 | (4 ^ (5 & (6 == (7 < (8 << (9 + (a * b))))))))))")
	wantShape(t, "b * a + 9 << 8 < 7 == 6 & 5 ^ 4 | 3 && 2 || 1", "((((((((((b * a) + 9) << 8) < 7) == 6) & 5) ^ 4) | 3) && 2) || 1)")
	wantShape(t, "1 - 2 - 3 - 4", "(((1 - 2) - 3) - 4)")
	wantShape(t, "1 + 2 * 3 - 4 % 5 == 6 + 7", "(((1 + (2 * 3)) - (4 % 5)) == (6 + 7))")
}

// wantPrinted is wantPlain of an expression.
func wantPrinted(t *testing.T, s string, want string) {
	t.Helper()
	wantPlain(t, "thread t { print "+s+"; }", "thread t { print "+want+" ; }")
}

func TestUnary(t *testing.T) {
	for _, level := range levels {
		for _, op := range level {
			for _, sign := range []string{"-", "!"} {
				wantShape(t, sign+" x "+op+" y", "("+sign+"(x) "+op+" y)")
				wantShape(t, "x "+op+" "+sign+" y", "(x "+op+" "+sign+"(y))")
				wantShape(t, sign+"(x "+op+" y)", sign+"((x "+op+" y))")
				wantPrinted(t, "("+sign+"x) "+op+" (y)", sign+" x "+op+" y")
				wantPrinted(t, "x "+op+" ("+sign+"(y))", "x "+op+" "+sign+" y")
				wantPrinted(t, sign+"(x "+op+" y)", sign+" ( x "+op+" y )")
			}
			wantPrinted(t, "a[(x "+op+" y)]", "a [ x "+op+" y ]")
		}
	}
	wantShape(t, "-!-x", "-(!(-(x)))")
	wantShape(t, "- - - 1", "-(-(-(1)))")
	wantShape(t, "!a[-1]", "!(a[-(1)])")
	wantShape(t, "-a[b[c[1]]]", "-(a[b[c[1]]])")
	wantShape(t, "((((x))))", "x")
	wantPrinted(t, "-(!(-(x)))", "- ! - x")
	wantPrinted(t, "!(a[(b[(1)])])", "! a [ b [ 1 ] ]")
	wantPrinted(t, "((1))+((2)*(3))", "1 + 2 * 3")
	wantPrinted(t, "-(((1)))", "- 1")
}

// All of the library's errors come first, also where what stands ahead is no module.
func TestLexErrors(t *testing.T) {
	for _, s := range []string{"$", "lock l; $", "lock $", "lock 01;", "} 1x", "lock abcdefghijklm;", "thread t { print 9223372036854775808; }"} {
		if _, e := lex.Lex(s); e != api.ErrSyntax {
			t.Fatalf("%q: error %d", s, e)
		}
		wantError(t, s, api.ErrSyntax)
	}
	for _, s := range []string{strings.Repeat(" ", 20001), strings.Repeat("lock l;", 3000), strings.Repeat(";", 4000), "}" + strings.Repeat(" ", 20000), strings.Repeat("lock l ; ", 1334)} {
		if _, e := lex.Lex(s); e != api.ErrLarge {
			t.Fatalf("%.30q: error %d", s, e)
		}
		wantError(t, s, api.ErrLarge)
	}
	wantError(t, strings.Repeat(";", 3999), api.ErrSyntax)
	m := read(t, strings.Repeat("lock l ; ", 1333))
	if len(m.Decls) != 1333 {
		t.Errorf("P15.1: %d declarations", len(m.Decls))
	}
	m = read(t, "lock l;"+strings.Repeat(" ", 19993))
	if len(m.Decls) != 1 {
		t.Errorf("P15.1: %d declarations", len(m.Decls))
	}
}

func TestNumbers(t *testing.T) {
	for _, form := range []string{"queue q #;", "extern queue q #;", "int a[#] by l;", "extern int a[#] by l;", "int f() rank # { }", "int f(x) with l rank # { }", "extern int f(#) rank 1;", "extern int f(1) rank #;", "extern int f(#) with l rank #;"} {
		for _, n := range []string{"1", "2", "999999", "1000000"} {
			read(t, strings.ReplaceAll(form, "#", n))
		}
		for _, n := range []string{"1000001", "1000002", "2000000", "4294967296", "4294967297", "9223372036854775807", "x", "", "-1", "1 1", "(1)"} {
			wantError(t, strings.ReplaceAll(form, "#", n), api.ErrSyntax)
		}
		if strings.Contains(form, "[") {
			wantError(t, strings.ReplaceAll(form, "#", "0"), api.ErrSyntax)
		} else {
			read(t, strings.ReplaceAll(form, "#", "0"))
		}
	}
	for _, form := range []string{"print #;", "var v = #;", "v = #;", "a[#] = 1;", "a[1] = #;", "f(#);", "f(1, #);", "put(q, #);", "if (#) { }", "while (#) { }", "return #;", "print a[#];", "print -#;", "print 1 + #;", "print (#);"} {
		for n, want := range map[string]int64{"0": 0, "1000000": 1000000, "1000001": 1000001, "9223372036854775807": 1<<63 - 1} {
			m := read(t, "thread t { "+strings.ReplaceAll(form, "#", n)+" }")
			if !slices.Contains(m.Exps, api.Exp{Kind: api.ExpNum, N: want}) {
				t.Errorf("P15.1: %s of %s: %+v", form, n, m.Exps)
			}
		}
	}
}

// nested is a statement in n blocks, the thread's own with them.
func nested(n int, open, inner string) string {
	return "thread t { " + strings.Repeat(open, n-1) + inner + strings.Repeat(" } ", n)
}

func wantDeepest(t *testing.T, what string, of func(n int) string, most int) {
	t.Helper()
	for n := range most + 1 {
		if _, e := parse.Parse(of(n)); e != api.OK {
			t.Errorf("P15.1: %s, %d deep: error %d: %s", what, n, e, of(n))
		}
		m, _ := parse.Parse(of(n))
		text, e := parse.Print(m)
		back, e2 := parse.Parse(text)
		if e != api.OK || e2 != api.OK || !equal(m, back) {
			t.Errorf("P15.3: %s, %d deep: errors %d, %d: %s", what, n, e, e2, text)
		}
	}
	for n := most + 1; n < most+5; n++ {
		wantError(t, of(n), api.ErrSyntax)
	}
	wantError(t, of(300), api.ErrSyntax)
}

func TestNest(t *testing.T) {
	for _, open := range []string{"with l { ", "if (1) { ", "while (1) { ", "if (1) { } else { "} {
		wantDeepest(t, open, func(n int) string { return nested(n+1, open, "") }, 19)
		wantDeepest(t, open, func(n int) string { return nested(n+1, open, "print 1 + 2 * a;") }, 19)
		wantDeepest(t, open, func(n int) string { return "int f() rank 1 " + nested(n+1, open, "f(1, x, 2 < 3);")[9:] }, 19)
		wantDeepest(t, open, func(n int) string { return nested(n+1, open, "with k { }") }, 18)
		wantDeepest(t, open, func(n int) string { return nested(n+1, open, "print (1);") }, 18)
		wantDeepest(t, open, func(n int) string { return nested(n+1, open, "print a[1];") }, 18)
		wantDeepest(t, open, func(n int) string { return nested(n+1, open, "a[1] = 1;") }, 18)
		wantDeepest(t, open, func(n int) string { return nested(n+1, open, "print -1;") }, 18)
		wantDeepest(t, open, func(n int) string { return nested(n+1, open, "a[-b[(x)]] = 1;") }, 15)
		wantDeepest(t, open, func(n int) string { return nested(n+1, open, "if (1) { }") }, 18)
		wantDeepest(t, open, func(n int) string { return nested(n+1, open, "if (1) { } else { }") }, 18)
	}
	for _, where := range []string{"print #;", "var v = #;", "v = #;", "a[1] = #;", "f(#);", "v = f(1, #);", "put(q, #);", "v = put(q, #);", "if (#) { }", "while (#) { }", "return #;", "print 1 + # * 2;", "print # < 1;"} {
		of := func(open, close string) func(n int) string {
			return func(n int) string {
				return "thread t { " + strings.ReplaceAll(where, "#", strings.Repeat(open, n)+"1"+strings.Repeat(close, n)) + " }"
			}
		}
		wantDeepest(t, where+" (", of("(", ")"), 19)
		wantDeepest(t, where+" a[", of("a[", "]"), 19)
		wantDeepest(t, where+" -", of("-", ""), 19)
		wantDeepest(t, where+" !", of("! ", ""), 19)
		wantDeepest(t, where+" -(a[", of("-(a[", "])"), 6)
		wantDeepest(t, where+" 1 + (", of("1 + (", ")"), 19)
		wantDeepest(t, where+" (2 * ", of("(2 * ", ")"), 19)
	}
	wantDeepest(t, "a[a[ = ", func(n int) string {
		return "thread t { a[" + strings.Repeat("a[", n) + "1" + strings.Repeat("]", n) + "] = 1; }"
	}, 18)
}

// What stands beside is no deeper: what has been left is left.
func TestNestIsLeft(t *testing.T) {
	deep := "print " + strings.Repeat("(", 10) + "1" + strings.Repeat(")", 10) + " + a[a[a[1]]] - - - 1; with l { with l { } } a[a[1]] = -1; if (1) { } else { } "
	read(t, nested(9, "with l { ", strings.Repeat(deep, 20)))
	read(t, "thread t { print "+strings.TrimSuffix(strings.Repeat("(-a[-(1)]) + ", 100), "+ ")+"; }")
	read(t, strings.Repeat(nested(20, "if (1) { ", "print 1;")+"\n", 10))
	read(t, "thread t { f("+strings.TrimSuffix(strings.Repeat("(-a[-(1)]), ", 100), ", ")+"); }")
	// Chains of operators are not nested.
	read(t, "thread t { print 1"+strings.Repeat(" - 1", 1900)+"; }")
	read(t, "thread t { print a[1"+strings.Repeat("*1", 1900)+"]; }")
	read(t, "thread t { "+strings.Repeat("print 1; ", 1300)+"}")
}

func TestWrong(t *testing.T) {
	for _, s := range []string{
		"lock", "lock l", "lock ;", "lock 1;", "lock l l;", "lock l,;", "lock int;", "lock l 1;", "ticket;", "ticket k 1;", "queue q;", "queue 1;", "queue q q;", "queue q 1 1;", "queue q [1];", "queue q -1;", "extern extern lock l;", "extern;", "extern thread t { }", "extern l;", "extern var;",
		"int", "int x", "int x;", "int x by", "int x by l", "int x by ;", "int x by 1;", "int x by l, m;", "int by l;", "int x[] by l;", "int x[1 by l;", "int x 1] by l;", "int x[n] by l;", "int x[1][2] by l;", "int x[0] by l;", "extern int x[0] by l;", "int x[1];", "int [1] x by l;", "int x with l;", "int x by lock;", "int x by l rank 1;",
		"int f", "int f(", "int f()", "int f() rank", "int f() rank 1", "int f() rank 1;", "int f() rank 1 {", "int f() { }", "int f() rank { }", "int f() rank x { }", "int f() with rank 1 { }", "int f() with l { }", "int f() rank 1 with l { }", "int f(1) rank 1 { }", "int f(x y) rank 1 { }", "int f(x,) rank 1 { }", "int f(,x) rank 1 { }", "int f(,) rank 1 { }", "int f(int x) rank 1 { }", "int f(x rank 1 { }", "int f x) rank 1 { }", "int f(x)) rank 1 { }", "int f() rank 1 { } ;", "int f() rank 1 1 { }", "int f() by l rank 1 { }", "int f() with l with m rank 1 { }", "int () rank 1 { }",
		"extern int f() rank 1;", "extern int f(x) rank 1;", "extern int f(1) rank 1 { }", "extern int f(1);", "extern int f(1) rank;", "extern int f(1) rank 1", "extern int f(1) with rank 1;", "extern int f(1, 2) rank 1;", "extern int f(-1) rank 1;",
		"thread", "thread t", "thread t;", "thread { }", "thread t {", "thread t }", "thread t { } }", "thread t { { } }", "thread t() { }", "thread 1 { }", "thread t rank 1 { }", "thread t with l { }", "thread thread { }", "}", "{", "{ }", ";", "x", "1", "x = 1;", "print 1;", "var x = 1;", "get(q);", ")", "by", "rank", "else",
	} {
		wantError(t, s, api.ErrSyntax)
		wantError(t, s+" lock z;", api.ErrSyntax)
		wantError(t, "lock z; "+s, api.ErrSyntax)
	}
	wantError(t, "extern", api.ErrSyntax)
	for _, s := range []string{
		";", "1;", "x;", "x", "x =", "x = ;", "x = 1", "x == 1;", "1 = x;", "x = y = 1;", "x = 1 2;", "x + 1;", "(x) = 1;", "(x = 1);", "-x = 1;", "x = (1;", "x = 1);", "x = ();", "x = +1;", "x = 1 +;", "x = * 1;", "x = 1 + * 2;", "x = ! ;", "x = 1 ! 2;", "x = 1 = 2;", "x = a[];", "x = a[1;", "x = a 1];", "x = a[1]];", "x = a[1][2];", "x = 1[2];", "x = (a)[1];", "x = f(1) + 1;", "x = 1 + f(1);", "x = (f(1));", "x = -f(1);", "x = get(q) + 1;", "x = put(q, 1) + 1;", "x = (get(q));", "x = f(get(q));", "x = lock;", "x = f;;", "x, y = 1;", "x = 1, 2;", "x := 1;",
		"a[1];", "a[1] =;", "a[] = 1;", "a[1] = f(1);", "a[1] = get(q);", "a[1] = put(q, 1);", "a[1][2] = 1;", "a[1 = 1;", "a[1, 2] = 1;", "a[1] + 1;", "a 1] = 1;", "[1] = 1;",
		"f(;", "f);", "f(1;", "f(1)", "f(,);", "f(1,);", "f(,1);", "f(1 2);", "f(f(1));", "f()();", "f() = 1;", "1();", "f(print);", "x = f(;", "x = f(1,);", "x = y = f();", "var x = f();", "a[1] = f();", "print f();", "return f();", "if (f()) { }",
		"get;", "get();", "get(1);", "get(q;", "get q;", "get(q, 1);", "get(q)", "get(q[1]);", "get((q));", "x = get;", "x = get();", "var x = get(q);", "print get(q);", "get = 1;", "put;", "put();", "put(q);", "put(q,);", "put(q 1);", "put(1, q);", "put(q, 1, 2);", "put(q, 1)", "put(, 1);", "x = put(q);", "var x = put(q, 1);", "put(q, 1",
		"if { }", "if () { }", "if x { }", "if (x { }", "if x) { }", "if (x) print 1;", "if (x);", "if (x) {", "if (x) { } else", "if (x) { } else;", "if (x) { } else print 1;", "if (x) { } else if (y) { }", "if (x) { } else { } else { }", "else { }", "if (x, y) { }", "if (x) }",
		"while { }", "while () { }", "while x { }", "while (x) print 1;", "while (x);", "while (x) { } else { }", "while (x", "while (x) {",
		"with { }", "with l;", "with l", "with 1 { }", "with (l) { }", "with l print 1;", "with l, m { }", "with l {", "with lock { }",
		"print;", "print", "print 1", "print 1, 2;", "print (1;", "print = 1;", "print x y;", "return;", "return", "return 1", "return 1, 2;", "return x = 1;", "var;", "var x;", "var x = ;", "var = 1;", "var 1 = 1;", "var x 1;", "var x[1] = 1;", "var x = 1, y = 2;", "var print = 1;", "var x == 1;", "int x by l;", "lock l;", "thread u { }", "extern lock l;", "{ }", "{ print 1; }",
	} {
		wantError(t, "thread t { "+s+" }", api.ErrSyntax)
		wantError(t, "int f(p) rank 1 { print 1; "+s+" print 2; }", api.ErrSyntax)
	}
}

// somewhere are sources that have all of the grammar.
func somewhere() []string {
	l := []string{
		"thread t { if ( x ) { print 1 ; } else { f ( 1 ) ; } }",
		"thread t { with l { a [ 1 + x ] = - ( 2 - y ) ; } }",
		"thread t { while ( ! x ) { v = get ( q ) ; } get ( q ) ; }",
		"int f ( x , y ) with l rank 2 { v = put ( q , x ) ; put ( q , 1 ) ; return a [ y ] ; }",
		"thread t { var v = x || y && z ; v = f ( v , 1 ) ; f ( ) ; } lock l ;",
	}
	for s := range decls() {
		l = append(l, s)
	}
	slices.Sort(l)
	return l
}

// Each token of the grammar is left out, written twice, or another one stands in its place or ahead of it: what is read then is what the grammar has.
func TestOtherTokens(t *testing.T) {
	others := strings.Fields("lock ticket queue extern int by rank thread var if else while with print return get put && || == != <= >= << >> + - * / % & | ^ < > ! = ( ) { } [ ] ; , x 0 1 1000000 1000001")
	good := 0
	for _, s := range somewhere() {
		tokens := strings.Fields(s)
		for i := range tokens {
			ahead, behind := tokens[:i], tokens[i+1:]
			cases := [][]string{slices.Concat(ahead, behind), ahead}
			for _, o := range others {
				cases = append(cases, slices.Concat(ahead, []string{o}, behind), slices.Concat(ahead, []string{o}, tokens[i:]))
			}
			for _, c := range cases {
				if wantAsGrammar(t, strings.Join(c, " ")) {
					good++
				}
			}
		}
		for _, o := range others {
			wantAsGrammar(t, s+" "+o)
		}
	}
	if good < 500 {
		t.Errorf("%d sources that are read", good)
	}
}

// wantAsGrammar wants a source to be read just if the grammar has it, and tells whether it is.
func wantAsGrammar(t *testing.T, s string) bool {
	t.Helper()
	want := isModule(s)
	m, e := parse.Parse(s)
	if (e == api.OK) != want || e != api.OK && (e != api.ErrSyntax || !isZero(m)) {
		t.Errorf("P15.1: %s: error %d; the grammar has it: %v", s, e, want)
	}
	if e == api.OK {
		text, ok := modelPrint(m)
		if got, e := parse.Print(m); !ok || e != api.OK || got != text {
			t.Errorf("P15.2: %s: %q, error %d; want %q, %v", s, got, e, text, ok)
		}
	}
	return want
}

// Made up modules: read, printed and read again, with blanks, notes and parentheses more or not.
func TestMadeUp(t *testing.T) {
	r := rand.New(rand.NewSource(15))
	read := 0
	for i := range 6000 {
		k := makeUp(r, 2+i%19)
		plain := strings.Join(k.plain, " ")
		if len(k.free) > 1800 || len(plain) > 9000 {
			continue
		}
		read++
		wantModule(t, spread(r, k.free), k.m)
		wantModule(t, spread(r, k.plain), k.m)
		if text, e := parse.Print(k.m); e != api.OK || text != plain {
			t.Fatalf("P15.2: %q, error %d; want %q", text, e, plain)
		}
		wantModule(t, plain, k.m)
		if text, ok := modelPrint(k.m); !ok || text != plain {
			t.Fatalf("the model: %q, %v; want %q", text, ok, plain)
		}
	}
	if read < 4000 {
		t.Errorf("%d modules", read)
	}
}

// Tokens of made up modules are changed at random.
func TestMadeUpWrong(t *testing.T) {
	r := rand.New(rand.NewSource(51))
	good := 0
	for range 12000 {
		k := makeUp(r, 4)
		if len(k.free) == 0 || len(k.free) > 150 {
			continue
		}
		for range 1 + r.Intn(2) {
			i, j := r.Intn(len(k.free)), r.Intn(len(k.free))
			switch r.Intn(4) {
			case 0:
				k.free[i], k.free[j] = k.free[j], k.free[i]
			case 1:
				k.free[i] = k.free[j]
			case 2:
				k.free = slices.Insert(k.free, i, k.free[j])
			default:
				if len(k.free) > 1 {
					k.free = slices.Delete(k.free, i, i+1)
				}
			}
		}
		if wantAsGrammar(t, strings.Join(k.free, " ")) {
			good++
		}
	}
	if good < 500 {
		t.Errorf("%d sources that are read", good)
	}
}

// Parentheses round a whole exp, blanks and notes turn no module.
func TestTurnsNothing(t *testing.T) {
	s := "thread t { var v = # ; v = # ; a [ # ] = # ; f ( # , # ) ; put ( q , # ) ; if ( # ) { print # ; } while ( # ) { } print a [ # ] ; } int f ( ) rank 1 { return # ; }"
	for _, e := range []string{"1", "x", "- x", "a [ 1 ]", "1 + 2", "1 || 2 && 3", "- ( 1 - 2 )"} {
		want := read(t, strings.ReplaceAll(s, "#", e))
		for range 4 {
			e = "( " + e + " )"
			wantModule(t, strings.ReplaceAll(s, "#", e), want)
			wantModule(t, strings.ReplaceAll(strings.ReplaceAll(s, "#", e), " ", " // ( $ 1x\n\t"), want)
		}
	}
}

// What is handed in to Print is not changed.
func TestPrintLeaves(t *testing.T) {
	s := "extern lock l; int f(p, q1) rank 1 { var v = p + q1; g(v, 1, 2); if (v) { print 1; } else { print 2; } return v; }"
	m, twin := read(t, s), read(t, s)
	for range 2 {
		parse.Print(m)
		if !reflect.DeepEqual(m, twin) {
			t.Fatalf("R5: %+v; was %+v", m, twin)
		}
	}
	m.Stmts[1].Args[0] = 77
	if _, e := parse.Print(m); e != api.ErrArg || m.Stmts[1].Args[0] != 77 {
		t.Errorf("R5: error %d, %+v", e, m)
	}
}

// No two lists of an answer share any memory, their spare room too.
func TestListsOfTheirOwn(t *testing.T) {
	s := "int f(p, q1, r) rank 1 { g(p, q1, r); g(1); g(1, 2); if (p) { print 1; print 2; print 3; } else { print 4; } while (1) { print 5; print 6; print 7; } return 1; } int h(a) rank 1 { return 2; } thread t { print 3; print 4; print 5; }"
	m := read(t, s)
	var lists []*[]int
	var params []*[]string
	for i := range m.Stmts {
		lists = append(lists, &m.Stmts[i].Args, &m.Stmts[i].Body, &m.Stmts[i].Else)
	}
	for i := range m.Decls {
		lists = append(lists, &m.Decls[i].Body)
		params = append(params, &m.Decls[i].Params)
	}
	for _, l := range lists {
		for i := range (*l)[:cap(*l)] {
			(*l)[:cap(*l)][i] = -5
		}
		twin := read(t, s)
		var others []*[]int
		for i := range twin.Stmts {
			others = append(others, &twin.Stmts[i].Args, &twin.Stmts[i].Body, &twin.Stmts[i].Else)
		}
		for i := range twin.Decls {
			others = append(others, &twin.Decls[i].Body)
		}
		for i := range lists {
			if lists[i] == l {
				copy(*l, *others[i])
			}
			if !slices.Equal(*lists[i], *others[i]) {
				t.Fatalf("R5: list %d is %v; want %v", i, *lists[i], *others[i])
			}
		}
	}
	first := *params[0]
	for i := range first[:cap(first)] {
		first[:cap(first)][i] = "z"
	}
	if (*params[1])[0] != "a" {
		t.Errorf("R5: %q", *params[1])
	}
}
