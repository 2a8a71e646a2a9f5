package parse_test

import (
	"math"
	"math/rand"
	"reflect"
	"slices"
	"strconv"
	"strings"
	"testing"

	"cotter/api"
	"cotter/parse"
)

func wantNone(t *testing.T, what any, m api.Module) {
	t.Helper()
	for range 2 {
		if s, e := parse.Print(m); s != "" || e != api.ErrArg {
			t.Errorf("P15.2: %v: %.200q, error %d; want none, error %d", what, s, e, api.ErrArg)
		}
	}
}

// wantAsModel wants Print to answer what the model does, and tells whether there is a text.
func wantAsModel(t *testing.T, what any, m api.Module) bool {
	t.Helper()
	want, ok := modelPrint(m)
	if !ok {
		wantNone(t, what, m)
		return false
	}
	if s, e := parse.Print(m); s != want || e != api.OK {
		t.Errorf("P15.2: %v: %.300q, error %d; want %.300q", what, s, e, want)
	}
	return true
}

func TestPrintElse(t *testing.T) {
	wantPlain(t, "thread t { if (1) { print 1; } else { print 2; } }", "thread t { if ( 1 ) { print 1 ; } else { print 2 ; } }")
	wantPlain(t, "thread t { if (1) { print 1; } else { } }", "thread t { if ( 1 ) { print 1 ; } }")
	wantPlain(t, "thread t { if (1) { } else { print 2; } }", "thread t { if ( 1 ) { } else { print 2 ; } }")
	wantPlain(t, "thread t { if (1) { if (2) { } else { } } else { } }", "thread t { if ( 1 ) { if ( 2 ) { } } }")
	m := read(t, "thread t { if (1) { } }")
	m.Stmts[0].Else = []int{}
	if s, e := parse.Print(m); s != "thread t { if ( 1 ) { } }" || e != api.OK {
		t.Errorf("P15.2: %q, error %d", s, e)
	}
}

// A list that is empty may be nil or not.
func TestPrintEmptyLists(t *testing.T) {
	m := read(t, "thread t { f(); print 1; } int f() rank 1 { }")
	for i := range m.Stmts {
		m.Stmts[i].Args, m.Stmts[i].Body, m.Stmts[i].Else = []int{}, []int{}, []int{}
	}
	for i := range m.Decls {
		m.Decls[i].Params = []string{}
	}
	m.Decls[1].Body = []int{}
	if s, e := parse.Print(m); s != "thread t { f ( ) ; print 1 ; } int f ( ) rank 1 { }" || e != api.OK {
		t.Errorf("P15.2: %q, error %d", s, e)
	}
}

func TestPrintNone(t *testing.T) {
	num, name := api.Exp{Kind: api.ExpNum, N: 1}, api.Exp{Kind: api.ExpName, Name: "x"}
	print0 := api.Stmt{Kind: api.StPrint}
	for i, m := range []api.Module{
		{Exps: []api.Exp{num}}, // used by none
		{Stmts: []api.Stmt{print0}, Exps: []api.Exp{num}},
		{Stmts: []api.Stmt{{Kind: api.StGet, Fun: "q"}}},
		{Decls: []api.Decl{{}}},
		{Decls: []api.Decl{{Kind: 7, Name: "l"}}},
		{Decls: []api.Decl{{Kind: -1, Name: "l"}}},
		{Decls: []api.Decl{{Kind: api.DeclLock}}},
		{Decls: []api.Decl{{Kind: api.DeclTicket, Name: "k", Extern: true}}}, // would be read as a lock
		{Decls: []api.Decl{{Kind: api.DeclThread, Name: "t", Extern: true}}},
		{Decls: []api.Decl{{Kind: api.DeclInt, Name: "x"}}},
		{Decls: []api.Decl{{Kind: api.DeclFunc, Name: "f", Count: 1}}},
		{Decls: []api.Decl{{Kind: api.DeclFunc, Name: "f", Params: []string{"x"}}}},
		{Decls: []api.Decl{{Kind: api.DeclFunc, Name: "f", Params: []string{"x"}, Count: 1, Extern: true}}},
		{Decls: []api.Decl{{Kind: api.DeclFunc, Name: "f", Extern: true, Body: []int{0}}}, Stmts: []api.Stmt{{Kind: api.StGet, Fun: "q"}}},
		{Decls: []api.Decl{{Kind: api.DeclThread, Name: "t", Body: []int{0}}}},
		inThread(print0),
		inThread(api.Stmt{Kind: 0}, num),
		inThread(api.Stmt{Kind: 12}, num),
		inThread(print0, api.Exp{Kind: 0}),
		inThread(print0, api.Exp{Kind: 6}),
		inThread(print0, num, num),
		inThread(print0, api.Exp{Kind: api.ExpOne, Op: "-"}),     // a circle
		inThread(print0, api.Exp{Kind: api.ExpIndex, Name: "a"}), // a circle
		inThread(print0, api.Exp{Kind: api.ExpTwo, Op: "+"}),     // a circle
		inThread(print0, api.Exp{Kind: api.ExpTwo, Op: "+", L: 1, R: 1}, api.Exp{Kind: api.ExpTwo, Op: "+"}),
		inThread(api.Stmt{Kind: api.StPrint, E: 1}, num, api.Exp{Kind: api.ExpTwo, Op: "+"}), // one part twice
		inThread(api.Stmt{Kind: api.StPrint, E: 1}, num, api.Exp{Kind: api.ExpTwo, Op: "+", R: 1}),
		inThread(api.Stmt{Kind: api.StPrint, E: 1}, api.Exp{Kind: api.ExpTwo, Op: "+", L: 1, R: 2}, num, name), // parts behind it
		inThread(api.Stmt{Kind: api.StPrint, E: 2}, num, name, api.Exp{Kind: api.ExpTwo, Op: "+", L: 1, R: 0}), // in another order
		inThread(api.Stmt{Kind: api.StSetAt, Name: "a", I: 1, E: 0}, num, name),
		inThread(api.Stmt{Kind: api.StCall, Fun: "f", Args: []int{1, 0}}, num, name),
		inThread(api.Stmt{Kind: api.StCall, Fun: "f", Args: []int{0, 0}}, num),
		inThread(api.Stmt{Kind: api.StWhile, Body: []int{0}}, num), // a circle
		inThread(api.Stmt{Kind: api.StWith, Name: "l", Body: []int{0}}),
		inThread(api.Stmt{Kind: api.StWith, Name: "l", Body: []int{0, 0, 0}}),
		inThread(api.Stmt{Kind: api.StIf, Else: []int{0}}, num),
		inThread(api.Stmt{Kind: api.StIf, Body: []int{1}}, num),
		{Decls: []api.Decl{{Kind: api.DeclThread, Name: "t", Body: []int{0, 0}}}, Stmts: []api.Stmt{print0}, Exps: []api.Exp{num}},
		{Decls: []api.Decl{{Kind: api.DeclThread, Name: "t", Body: []int{0}}, {Kind: api.DeclThread, Name: "u", Body: []int{0}}}, Stmts: []api.Stmt{print0}, Exps: []api.Exp{num}},
		{Decls: []api.Decl{{Kind: api.DeclThread, Name: "t", Body: []int{1, 0}}}, Stmts: []api.Stmt{print0, {Kind: api.StPrint, E: 1}}, Exps: []api.Exp{num, num}},
		{Decls: []api.Decl{{Kind: api.DeclThread, Name: "t", Body: []int{0}}}, Stmts: []api.Stmt{{Kind: api.StWith, Name: "l", Body: []int{1}}, {Kind: api.StGet, Fun: "q"}}},
	} {
		wantNone(t, i, m)
	}
}

// Names and signs that are none, also such as are read as more than one token.
func TestPrintWrongTexts(t *testing.T) {
	wrong := []string{"", " ", "1", "a b", "a ", " a", "a;", "lock", "get", "abcdefghijklm", "$", "a//", "//", "a\n", "x , y", ")", "+ 1 +", "é", "\x00", "l ; lock m", strings.Repeat("x", 30000), strings.Repeat("x ", 15000)}
	for _, w := range wrong {
		for i, m := range []api.Module{
			{Decls: []api.Decl{{Kind: api.DeclLock, Name: w}}},
			{Decls: []api.Decl{{Kind: api.DeclInt, Name: w, By: "l"}}},
			{Decls: []api.Decl{{Kind: api.DeclInt, Name: "x", By: w}}},
			{Decls: []api.Decl{{Kind: api.DeclFunc, Name: w}}},
			{Decls: []api.Decl{{Kind: api.DeclFunc, Name: "f", Params: []string{w}, Count: 1}}},
			{Decls: []api.Decl{{Kind: api.DeclFunc, Name: "f", Params: []string{"x", w}, Count: 2}}},
			{Decls: []api.Decl{{Kind: api.DeclThread, Name: w}}},
			inThread(api.Stmt{Kind: api.StVar, Name: w}, api.Exp{Kind: api.ExpNum}),
			inThread(api.Stmt{Kind: api.StSet, Name: w}, api.Exp{Kind: api.ExpNum}),
			inThread(api.Stmt{Kind: api.StSetAt, Name: w, E: 1}, api.Exp{Kind: api.ExpNum}, api.Exp{Kind: api.ExpNum}),
			inThread(api.Stmt{Kind: api.StCall, Fun: w}),
			inThread(api.Stmt{Kind: api.StGet, Fun: w}),
			inThread(api.Stmt{Kind: api.StPut, Fun: w}, api.Exp{Kind: api.ExpNum}),
			inThread(api.Stmt{Kind: api.StWith, Name: w}),
			inThread(api.Stmt{Kind: api.StPrint}, api.Exp{Kind: api.ExpName, Name: w}),
			inThread(api.Stmt{Kind: api.StPrint, E: 1}, api.Exp{Kind: api.ExpNum}, api.Exp{Kind: api.ExpIndex, Name: w}),
			inThread(api.Stmt{Kind: api.StPrint, E: 1}, api.Exp{Kind: api.ExpNum}, api.Exp{Kind: api.ExpOne, Op: w}),
			inThread(api.Stmt{Kind: api.StPrint, E: 2}, api.Exp{Kind: api.ExpNum}, api.Exp{Kind: api.ExpNum}, api.Exp{Kind: api.ExpTwo, Op: w, R: 1}),
		} {
			wantNone(t, strconv.Itoa(i)+" of "+strconv.Quote(w[:min(len(w), 20)]), m)
		}
		if w == "" {
			continue // of calls, and of functions, no name is none
		}
		for i, m := range []api.Module{
			{Decls: []api.Decl{{Kind: api.DeclFunc, Name: "f", By: w}}},
			{Decls: []api.Decl{{Kind: api.DeclFunc, Name: "f", By: w, Extern: true}}},
			inThread(api.Stmt{Kind: api.StCall, Name: w, Fun: "f"}),
			inThread(api.Stmt{Kind: api.StGet, Name: w, Fun: "q"}),
			inThread(api.Stmt{Kind: api.StPut, Name: w, Fun: "q"}, api.Exp{Kind: api.ExpNum}),
		} {
			wantNone(t, strconv.Itoa(i)+" of "+strconv.Quote(w[:min(len(w), 20)]), m)
		}
	}
	for _, sign := range []string{"+", "*", "~", "&", "=", "(", "["} {
		wantNone(t, sign, inThread(api.Stmt{Kind: api.StPrint, E: 1}, api.Exp{Kind: api.ExpNum}, api.Exp{Kind: api.ExpOne, Op: sign}))
	}
	for _, sign := range []string{"!", "=", "~", "(", ")", "[", "]", ";", ",", "+-", "<<<", "&&&"} {
		wantNone(t, sign, inThread(api.Stmt{Kind: api.StPrint, E: 2}, api.Exp{Kind: api.ExpNum}, api.Exp{Kind: api.ExpNum}, api.Exp{Kind: api.ExpTwo, Op: sign, R: 1}))
	}
}

func TestPrintNumbers(t *testing.T) {
	for _, n := range []int64{0, 1, 1000000, 1000001, math.MaxInt64} {
		m := inThread(api.Stmt{Kind: api.StPrint}, api.Exp{Kind: api.ExpNum, N: n})
		if s, e := parse.Print(m); e != api.OK || s != "thread t { print "+strconv.FormatInt(n, 10)+" ; }" {
			t.Errorf("P15.2: %d: %q, error %d", n, s, e)
		}
	}
	for _, n := range []int64{-1, -2, -1000000, math.MinInt64, math.MinInt64 + 1} {
		wantNone(t, n, inThread(api.Stmt{Kind: api.StPrint}, api.Exp{Kind: api.ExpNum, N: n}))
		wantNone(t, n, inThread(api.Stmt{Kind: api.StPrint, E: 1}, api.Exp{Kind: api.ExpNum, N: n}, api.Exp{Kind: api.ExpOne, Op: "-"}))
	}
	for _, n := range []int{-1, 0, 1, 999999, 1000000, 1000001, math.MinInt, math.MaxInt} {
		for _, m := range []api.Module{
			{Decls: []api.Decl{{Kind: api.DeclQueue, Name: "q", N: n}}},
			{Decls: []api.Decl{{Kind: api.DeclInt, Name: "a", N: n, By: "l"}}},
			{Decls: []api.Decl{{Kind: api.DeclFunc, Name: "f", Rank: n}}},
			{Decls: []api.Decl{{Kind: api.DeclFunc, Name: "f", Extern: true, Rank: n}}},
			{Decls: []api.Decl{{Kind: api.DeclFunc, Name: "f", Extern: true, Count: n}}},
		} {
			if got := wantAsModel(t, n, m); got != (n >= 0 && n <= 1000000) {
				t.Errorf("the model: %d of %+v: %v", n, m, got)
			}
		}
	}
}

// fields are all the fields of a module that are no lists, and the elements of its lists, each with what it can be set to.
func fields(v reflect.Value, each func(set func(), back func())) {
	switch v.Kind() {
	case reflect.Struct:
		for i := range v.NumField() {
			fields(v.Field(i), each)
		}
	case reflect.Slice:
		for i := range v.Len() {
			fields(v.Index(i), each)
		}
		old := reflect.ValueOf(v.Interface())
		zero := reflect.Zero(v.Type().Elem())
		back := func() { v.Set(old) }
		each(func() { v.Set(reflect.Append(old, zero)) }, back)
		if v.Len() > 0 {
			each(func() { v.Set(old.Slice(0, old.Len()-1)) }, back)
			each(func() { v.Set(old.Slice(1, old.Len())) }, back)
			each(func() { v.Set(reflect.Append(old.Slice3(0, old.Len(), old.Len()), old.Index(0))) }, back)
		}
	case reflect.Int, reflect.Int64:
		old := v.Int()
		for _, n := range []int64{-1, 0, 1, 2, 3, 4, 5, 6, 7, 8, 9, 10, 11, 12, 1000001, old + 1, old - 1, math.MinInt64, math.MaxInt64} {
			each(func() { v.SetInt(n) }, func() { v.SetInt(old) })
		}
	case reflect.String:
		old := v.String()
		for _, s := range []string{"", "x", "l", "lock", "+", "-", "!", "*", "||", "(", "1", old + " ", old + old} {
			each(func() { v.SetString(s) }, func() { v.SetString(old) })
		}
	case reflect.Bool:
		old := v.Bool()
		each(func() { v.SetBool(!old) }, func() { v.SetBool(old) })
	}
}

// Each field of modules that were read is set to something else: there is a text just if the model has one.
func TestPrintOtherFields(t *testing.T) {
	sources := append(somewhere(), "thread t { print 1 - ( 2 - 3 ) ; print - 4 ; } thread u { with l { } if ( x ) { get ( q ) ; } else { f ( x , y ) ; } }")
	good, all := 0, 0
	for _, s := range sources {
		m, twin := read(t, s), read(t, s)
		fields(reflect.ValueOf(&m).Elem(), func(set func(), back func()) {
			set()
			all++
			if wantAsModel(t, s, m) {
				good++
			}
			back()
			if !equal(m, twin) {
				t.Fatalf("not set back: %+v; was %+v", m, twin)
			}
		})
	}
	if good < 500 || all-good < 500 {
		t.Errorf("%d of %d have a text", good, all)
	}
}

// Made up modules, with two fields that are something else, or two parts that have changed places.
func TestPrintMadeUpWrong(t *testing.T) {
	r := rand.New(rand.NewSource(152))
	good := 0
	for range 20000 {
		k := makeUp(r, 4)
		if len(k.free) > 200 {
			continue
		}
		m := k.m
		for range 1 + r.Intn(2) {
			disturb(r, &m)
		}
		if wantAsModel(t, "made up", m) {
			good++
		}
	}
	if good < 1000 {
		t.Errorf("%d have a text", good)
	}
}

func disturb(r *rand.Rand, m *api.Module) {
	any := func(n int) int { return r.Intn(n+2) - 1 }
	switch r.Intn(6) {
	case 0:
		if n := len(m.Exps); n > 0 {
			e := &m.Exps[r.Intn(n)]
			e.Kind, e.L, e.R = 1+r.Intn(5), any(n), any(n)
		}
	case 1:
		if n := len(m.Exps); n > 0 {
			e := &m.Exps[r.Intn(n)]
			signs := levels[r.Intn(len(levels))]
			e.Op = signs[r.Intn(len(signs))]
		}
	case 2:
		if n := len(m.Stmts); n > 0 {
			s := &m.Stmts[r.Intn(n)]
			s.Kind, s.E = 1+r.Intn(11), any(len(m.Exps))
		}
	case 3:
		if n := len(m.Stmts); n > 0 {
			s := &m.Stmts[r.Intn(n)]
			s.Body, s.Else, s.Args = s.Else, s.Body, append(slices.Clone(s.Args), any(len(m.Exps)))
		}
	case 4:
		if n := len(m.Exps); n > 1 {
			i, j := r.Intn(n), r.Intn(n)
			m.Exps[i], m.Exps[j] = m.Exps[j], m.Exps[i]
		}
	default:
		if n := len(m.Decls); n > 1 {
			i, j := r.Intn(n), r.Intn(n)
			m.Decls[i], m.Decls[j] = m.Decls[j], m.Decls[i]
		}
	}
}

// A text is no longer than a source may be, and has no more tokens.
func TestPrintLarge(t *testing.T) {
	for size := 19990; size < 20010; size++ {
		// " lock abcdefghijkl ;" has 20 bytes, with a shorter name down to 9.
		var m api.Module
		for rest := size + 1; rest > 0; {
			name := "abcdefghijkl"[:min(rest, 20)-8]
			if rest > 20 && rest < 29 {
				name = "a"
			}
			m.Decls = append(m.Decls, api.Decl{Kind: api.DeclLock, Name: name})
			rest -= len(name) + 8
		}
		got, e := parse.Print(m)
		if size <= 20000 && (e != api.OK || len(got) != size) || size > 20000 && (e != api.ErrArg || got != "") {
			t.Errorf("P15.2: a text of %d bytes: %d bytes, error %d", size, len(got), e)
		}
	}
	// What was read from a shorter text may have none.
	m := read(t, "thread t{"+strings.Repeat("f(abcdefghijkl);", 780)+"print abcdefghijkl;}")
	wantAsModel(t, "780 calls", m)
	m = read(t, "thread t{print 0"+strings.Repeat("+abcdefghijkl", 1400)+";}")
	wantNone(t, "1400 names", m)
	// 3999 tokens, and the end.
	m = read(t, strings.Repeat("lock l;", 1333))
	if s, e := parse.Print(m); e != api.OK || s != strings.TrimSpace(strings.Repeat("lock l ; ", 1333)) {
		t.Errorf("P15.2: %.50q, error %d", s, e)
	}
	m.Decls = append(m.Decls, api.Decl{Kind: api.DeclLock, Name: "l"})
	wantNone(t, "4002 tokens", m)
	m = read(t, "thread t{print 1"+strings.Repeat("-1", 1996)+";}")
	if s, e := parse.Print(m); e != api.OK || s != "thread t { print 1"+strings.Repeat(" - 1", 1996)+" ; }" {
		t.Errorf("P15.2: %.50q, error %d", s, e)
	}
}

// Far more parts than a text may have, and parts that are used over and over: each call ends soon.
func TestPrintEnds(t *testing.T) {
	doubled := inThread(api.Stmt{Kind: api.StPrint}, api.Exp{Kind: api.ExpNum})
	for i := range 200 {
		doubled.Exps = append(doubled.Exps, api.Exp{Kind: api.ExpTwo, Op: "+", L: i, R: i})
	}
	doubled.Stmts[0].E = 200
	wantNone(t, "doubled", doubled)
	for _, e := range []api.Exp{{Kind: api.ExpTwo, Op: "+"}, {Kind: api.ExpOne, Op: "-"}, {Kind: api.ExpIndex, Name: "a"}, {Kind: api.ExpTwo, Op: ""}, {Kind: api.ExpTwo, Op: "", Name: "z"}} {
		for _, n := range []int{3000, 3999, 4000, 4001, 1 << 20} {
			chain := inThread(api.Stmt{Kind: api.StPrint, E: n}, api.Exp{Kind: api.ExpNum})
			for i := range n {
				e.L = i
				chain.Exps = append(chain.Exps, e)
			}
			wantNone(t, n, chain)
		}
	}
	with := inThread(api.Stmt{Kind: api.StGet, Fun: "q"})
	for i := range 1 << 16 {
		with.Stmts = append(with.Stmts, api.Stmt{Kind: api.StWith, Name: "l", Body: []int{i, i}})
	}
	with.Decls[0].Body[0] = 1 << 16
	wantNone(t, "blocks", with)
	wantNone(t, "declarations", api.Module{Decls: make([]api.Decl, 1<<22)})
	many := api.Module{Decls: make([]api.Decl, 1<<16)}
	for i := range many.Decls {
		many.Decls[i] = api.Decl{Kind: api.DeclThread, Name: "t"}
	}
	wantNone(t, "threads", many)
	wantNone(t, "parameters", api.Module{Decls: []api.Decl{{Kind: api.DeclFunc, Name: "f", Params: make([]string, 1<<22), Count: 1 << 22}}})
	wantNone(t, "a body", api.Module{Decls: []api.Decl{{Kind: api.DeclThread, Name: "t", Body: make([]int, 1<<22)}}, Stmts: []api.Stmt{{Kind: api.StCall}}})
	wantNone(t, "arguments", inThread(api.Stmt{Kind: api.StCall, Fun: "f", Args: make([]int, 1<<22)}, api.Exp{Kind: api.ExpName}))
	wantNone(t, "expressions of no use", api.Module{Exps: make([]api.Exp, 1<<22)})
}

// Numbers of parts at and beyond the ends of the lists.
func TestPrintBeyond(t *testing.T) {
	for _, n := range []int{-1, 1, 2, math.MaxInt, math.MinInt, 1 << 32, -1 << 32} {
		num := api.Exp{Kind: api.ExpNum}
		for i, m := range []api.Module{
			inThread(api.Stmt{Kind: api.StPrint, E: n}, num),
			inThread(api.Stmt{Kind: api.StReturn, E: n}, num),
			inThread(api.Stmt{Kind: api.StVar, Name: "v", E: n}, num),
			inThread(api.Stmt{Kind: api.StSet, Name: "v", E: n}, num),
			inThread(api.Stmt{Kind: api.StSetAt, Name: "v", I: n}, num),
			inThread(api.Stmt{Kind: api.StSetAt, Name: "v", E: n}, num),
			inThread(api.Stmt{Kind: api.StCall, Fun: "f", Args: []int{n}}, num),
			inThread(api.Stmt{Kind: api.StCall, Fun: "f", Args: []int{0, n}}, num),
			inThread(api.Stmt{Kind: api.StPut, Fun: "q", E: n}, num),
			inThread(api.Stmt{Kind: api.StIf, E: n}, num),
			inThread(api.Stmt{Kind: api.StIf, Body: []int{n}}, num),
			inThread(api.Stmt{Kind: api.StIf, Else: []int{n}}, num),
			inThread(api.Stmt{Kind: api.StWhile, E: n}, num),
			inThread(api.Stmt{Kind: api.StWhile, Body: []int{n}}, num),
			inThread(api.Stmt{Kind: api.StWith, Name: "l", Body: []int{n}}),
			inThread(api.Stmt{Kind: api.StPrint, E: 1}, num, api.Exp{Kind: api.ExpOne, Op: "-", L: n}),
			inThread(api.Stmt{Kind: api.StPrint, E: 1}, num, api.Exp{Kind: api.ExpIndex, Name: "a", L: n}),
			inThread(api.Stmt{Kind: api.StPrint, E: 1}, num, api.Exp{Kind: api.ExpTwo, Op: "+", L: n}),
			inThread(api.Stmt{Kind: api.StPrint, E: 1}, num, api.Exp{Kind: api.ExpTwo, Op: "+", R: n}),
			{Decls: []api.Decl{{Kind: api.DeclThread, Name: "t", Body: []int{n}}}, Stmts: []api.Stmt{{Kind: api.StGet, Fun: "q"}}},
			{Decls: []api.Decl{{Kind: api.DeclFunc, Name: "f", Body: []int{n}}}, Stmts: []api.Stmt{{Kind: api.StGet, Fun: "q"}}},
		} {
			wantNone(t, strconv.Itoa(i)+" with "+strconv.Itoa(n), m)
		}
	}
}

// Modules of anything at all.
func TestPrintAny(t *testing.T) {
	r := rand.New(rand.NewSource(153))
	small := func() int { return r.Intn(9) - 1 }
	text := func() string {
		return []string{"", "a", "b", "+", "-", "||", "lock", "1", ")", ";"}[r.Intn(10)]
	}
	list := func() (l []int) {
		for range r.Intn(3) {
			l = append(l, small())
		}
		return l
	}
	for range 30000 {
		var m api.Module
		for range r.Intn(3) {
			m.Decls = append(m.Decls, api.Decl{Kind: small(), Name: text(), Extern: r.Intn(3) == 0, N: small(), By: text(), Count: small(), Rank: small(), Body: list()})
		}
		for range r.Intn(4) {
			m.Stmts = append(m.Stmts, api.Stmt{Kind: 2 + small(), Name: text(), Fun: text(), E: small(), I: small(), Args: list(), Body: list(), Else: list()})
		}
		for range r.Intn(6) {
			m.Exps = append(m.Exps, api.Exp{Kind: small(), Op: text(), Name: text(), N: int64(small()), L: small(), R: small()})
		}
		wantAsModel(t, "any", m)
	}
}
