package driver_test

import (
	"math/rand"
	"reflect"
	"slices"
	"strconv"
	"strings"
	"testing"

	"cotter/api"
	"cotter/check"
	"cotter/driver"
	"cotter/image"
	"cotter/lex"
	"cotter/objf"
	"cotter/parse"
)

func read(t *testing.T, s string) api.Module {
	t.Helper()
	m, e := parse.Parse(s)
	if e != api.OK {
		t.Fatalf("P15.1: error %d: %.200q", e, s)
	}
	return m
}

func reads(t *testing.T, l []string) []api.Module {
	t.Helper()
	var all []api.Module
	for _, s := range l {
		all = append(all, read(t, s))
	}
	return all
}

// spoil overwrites a list with all its spare room.
func spoil[T any](l []T, with T) {
	l = l[:cap(l)]
	for i := range l {
		l[i] = with
	}
}

// symbols are those that a module's object has.
func symbols(m api.Module) map[string]int {
	kinds := map[int]int{api.DeclInt: api.SymData, api.DeclFunc: api.SymCode, api.DeclThread: api.SymThread}
	l := map[string]int{}
	for _, d := range m.Decls {
		if kind, ok := kinds[d.Kind]; ok && !d.Extern {
			l[d.Name] = kind
		}
	}
	return l
}

// named are what relocations of a module's object may name, by their kinds.
func named(m api.Module) map[string]int {
	l := map[string]int{}
	for _, d := range m.Decls {
		switch d.Kind {
		case api.DeclLock, api.DeclTicket:
			l[d.Name+".acq"], l[d.Name+".rel"] = api.RelJump, api.RelJump
		case api.DeclQueue:
			l[d.Name+".put"], l[d.Name+".get"] = api.RelJump, api.RelJump
		case api.DeclInt:
			l[d.Name] = api.RelAddr
		case api.DeclFunc:
			l[d.Name] = api.RelJump
		}
	}
	return l
}

// wantObject: an object is such as a module's is.
func wantObject(t *testing.T, m api.Module, o api.Object) {
	t.Helper()
	if e := objf.Check(o); e != api.OK {
		t.Fatalf("P23.1: objf.Check: error %d", e)
	}
	got, words := map[string]int{}, 0
	for _, s := range o.Syms {
		got[s.Name] = s.Kind
	}
	if len(o.Syms) != len(got) || !reflect.DeepEqual(got, symbols(m)) {
		t.Fatalf("P23.1: symbols %v; want %v", o.Syms, symbols(m))
	}
	for _, d := range m.Decls {
		if d.Kind == api.DeclInt && !d.Extern {
			words += max(1, d.N)
		}
	}
	if !slices.Equal(o.Data, make([]int64, words)) {
		t.Fatalf("P23.1: words %v; want %d, all 0", o.Data, words)
	}
	may := named(m)
	for _, r := range o.Relocs {
		if may[r.Name] != r.Kind {
			t.Fatalf("P23.1: a relocation %+v; there may be %v", r, may)
		}
	}
}

func TestCompile(t *testing.T) {
	texts := []string{"", "lock l;", "extern lock l; extern queue q 1; extern int x by l; extern int f(2) rank 3;", "int f() rank 0 { }", "extern int f(1) rank 0; thread t { f(1); }",
		"thread a { } thread b { } thread c { } thread d { } thread e { }", "lock l; int x by l; int a[64] by l;"}
	for seed := range int64(150) {
		_, l, _ := madeUp(seed)
		texts = append(texts, l...)
	}
	for _, s := range texts {
		o, e := driver.Compile(s)
		if e != api.OK {
			t.Fatalf("P23.1: error %d: %q", e, s)
		}
		wantObject(t, read(t, s), o)
		again, _ := driver.Compile(s)
		if !reflect.DeepEqual(o, again) {
			t.Fatalf("R6: %q", s)
		}
		spoil(again.Data, 99)
		spoil(again.Syms, api.Sym{Name: "spoilt"})
		spoil(again.Relocs, api.Reloc{Name: "spoilt"})
		if again, _ = driver.Compile(s); !reflect.DeepEqual(o, again) {
			t.Fatalf("R5: %q", s)
		}
	}
}

// wrong are sources that no module that holds is made of, and their errors.
var wrong = []struct {
	s string
	e api.Errno
}{
	{strings.Repeat(" ", api.MaxSource+1), api.ErrLarge},
	{strings.Repeat(";", api.MaxTokens), api.ErrLarge},
	{"thread", api.ErrSyntax},
	{"thread t { print 1 }", api.ErrSyntax},
	{"thread t { \xff }", api.ErrSyntax},
	{"thread t { x = 1; }", api.ErrType},
	{"thread t { x = 1; } lock l; lock l;", api.ErrDuplicate}, // asked ahead of types
	{"lock l; int x by l; thread t { x = 1; }", api.ErrType},
	{"lock l; int x by l; int f() with l rank 0 { x = 1; } thread t { f(); }", api.ErrType},
	{"queue q 9; thread t { }", api.ErrType},
	{"int f() rank 1 { f(); } thread t { }", api.ErrType},
	{strings.Repeat("lock l;", 41), api.ErrLarge},
}

func TestCompileErrors(t *testing.T) {
	for _, c := range wrong {
		for range 2 {
			if o, e := driver.Compile(c.s); e != c.e || !reflect.DeepEqual(o, api.Object{}) {
				t.Errorf("P23.1: %.60q: %v, error %d; want %d", c.s, o, e, c.e)
			}
		}
	}
}

// moduleError is what Compile answers but for what is too large.
func moduleError(s string) api.Errno {
	m, e := parse.Parse(s)
	if e != api.OK {
		return e
	}
	return check.Module(m)
}

// words are a source's tokens as texts, and which of them are names.
func words(t *testing.T, s string) (l []string, names []int) {
	t.Helper()
	all, e := lex.Lex(s)
	if e != api.OK {
		t.Fatalf("P14.1: error %d", e)
	}
	for i, k := range all[:len(all)-1] {
		if k.Kind == api.TokNum {
			k.Text = strconv.FormatInt(k.N, 10)
		}
		if k.Kind == api.TokName {
			names = append(names, i)
		}
		l = append(l, k.Text)
	}
	return l, names
}

// spoilt is a source with one of its names in the place of another one, or with tokens that are left out, there twice, or changed.
func spoilt(t *testing.T, r *rand.Rand, s string) string {
	t.Helper()
	l, names := words(t, s)
	i, j := r.Intn(len(l)), r.Intn(len(l))
	switch r.Intn(12) {
	case 0:
		l = slices.Delete(l, i, i+1)
	case 1:
		l = slices.Insert(l, i, l[j])
	case 2:
		l[i], l[j] = l[j], l[i]
	case 3:
		l[i] = []string{"x", "l", "0", "}", "{", ";", "extern", "lock", "9", "q", "k", "t", "return", "var"}[r.Intn(14)]
	default:
		l[names[r.Intn(len(names))]] = l[names[r.Intn(len(names))]]
	}
	return strings.Join(l, " ")
}

func TestCompileSpoilt(t *testing.T) {
	seen := map[api.Errno]int{}
	for seed := range int64(700) {
		_, l, r := madeUp(seed)
		s := spoilt(t, r, l[r.Intn(len(l))])
		want := moduleError(s)
		o, e := driver.Compile(s)
		if e != want || e != api.OK && !reflect.DeepEqual(o, api.Object{}) {
			t.Fatalf("P23.1: %q: %v, error %d; want %d", s, o, e, want)
		}
		seen[e]++
	}
	if seen[api.OK] < 20 || seen[api.ErrSyntax] < 100 || seen[api.ErrType] < 50 || seen[api.ErrDuplicate] < 10 {
		t.Errorf("too few errors: %v", seen)
	}
}

// tokens are how many a source has, the end with them.
func tokens(t *testing.T, s string) int {
	t.Helper()
	l, e := lex.Lex(s)
	if e != api.OK {
		t.Fatalf("P14.1: error %d", e)
	}
	return len(l)
}

// dense are sources of at most so many tokens, with as much code as can be for them.
func dense(t *testing.T, most int) []string {
	t.Helper()
	head := "lock l; int x by l; int a[64] by l; queue q 8; int f(p, r, s, w) rank 0 { } thread t { with l { var v = 0; var u = 0; "
	var l []string
	for _, c := range [][3]string{
		{"", "x = 1; ", ""},
		{"", "a[a[a[a[a[a[a[a[v]]]]]]]] = a[a[a[a[a[a[a[a[u]]]]]]]]; ", ""},
		{"", "print a[a[a[a[a[a[a[a[a[a[a[a[a[a[a[a[v]]]]]]]]]]]]]]]]; ", ""},
		{"", "f(v, u, x, 1); ", ""},
		{"", "v = f(v, u, x, 1); ", ""},
		{"", "put(q, x); ", ""},
		{"", "if (v && u || x) { v = u; while (u) { u = v || x && u; } } ", ""},
		{"v = 0", " || x", "; "},
		{"v = x", " / x && !x || x", "; "},
		{"while (x) { while (v) { while (u) { ", "if (v) { u = u + x; v = x; } ", "} } } "},
		{"while (u) { ", "v = v + u; u = v - 1; v = u; ", "} "},
		{"while (u) { ", "if (v) { v = u; } else { u = v; while (x) { x = v; } } ", "} "},
	} {
		ends := c[2] + "} }"
		room := most - tokens(t, head+c[0]+ends)
		l = append(l, head+c[0]+strings.Repeat(c[1], room/(tokens(t, c[1])-1))+ends)
	}
	return l
}

// What has few tokens is never too large; what has more may be.
func TestCompileDense(t *testing.T) {
	for _, most := range []int{400, 4000} {
		for _, s := range dense(t, most) {
			if e := check.Fit(read(t, s)); e != api.OK || tokens(t, s) > most {
				t.Fatalf("made up: error %d", e)
			}
			o, e := driver.Compile(s)
			if e != api.OK && (most == 400 || e != api.ErrLarge) {
				t.Errorf("P23.1: error %d: %.200q", e, s)
			}
			if e == api.OK {
				wantObject(t, read(t, s), o)
			}
			im, e := driver.Build(s)
			if e != api.OK && (most == 400 || e != api.ErrLarge) {
				t.Errorf("P23.2: error %d: %.200q", e, s)
			}
			if e == api.OK && image.Check(im) != api.OK {
				t.Errorf("P4: error %d: %.200q", image.Check(im), s)
			}
		}
	}
}

// renamed has other names, so that sources which give the same things go together.
func renamed(t *testing.T, s string, with string) string {
	t.Helper()
	l, names := words(t, s)
	for _, i := range names {
		l[i] += with
	}
	return strings.Join(l, " ")
}

// Several sources of together few tokens are never too large; of many, they are, and then there is no image.
func TestBuildDense(t *testing.T) {
	large := 0
	for _, c := range []struct{ modules, most int }{{2, 200}, {4, 100}, {2, 4000}, {4, 1200}, {4, 4000}} {
		for _, s := range dense(t, c.most) {
			var l []string
			for k := range c.modules {
				l = append(l, renamed(t, s, strconv.Itoa(k)))
			}
			if e := check.Fit(reads(t, l)...); e != api.OK {
				t.Fatalf("made up: error %d: %.300q", e, l[0])
			}
			im, e := driver.Build(l...)
			if e != api.OK && (c.modules*c.most <= 400 || e != api.ErrLarge || !reflect.DeepEqual(im, api.Image{})) {
				t.Errorf("P23.2: error %d: %.200q", e, l)
			}
			if e == api.OK && (image.Check(im) != api.OK || len(image.Threads(im)) != c.modules) {
				t.Errorf("P4: error %d: %.200q", image.Check(im), l)
			}
			if e != api.OK {
				large++
			}
		}
	}
	if large == 0 {
		t.Error("nothing was too large")
	}
}
