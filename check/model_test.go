package check_test

import (
	"math/rand"
	"slices"
	"strconv"
	"strings"
	"testing"

	"cotter/api"
	"cotter/check"
	"cotter/parse"
)

// site is a statement where it stands: in which body, under which locks, behind which variables.
type site struct {
	body  api.Decl
	stmt  api.Stmt
	withs []string // of the StWith round it, the outermost first
	vars  []string // parameters, and the StVar ahead in the text
}

// model is a module, and all its statements where they stand.
type model struct {
	api.Module
	sites []site
}

func newModel(m api.Module) *model {
	l := &model{Module: m}
	for _, d := range m.Decls {
		vars := slices.Clone(d.Params)
		var walk func(block []int, withs []string)
		walk = func(block []int, withs []string) {
			for _, i := range block {
				s := m.Stmts[i]
				l.sites = append(l.sites, site{d, s, withs, slices.Clone(vars)})
				if s.Kind == api.StVar {
					vars = append(vars, s.Name)
				}
				if s.Kind == api.StWith {
					walk(s.Body, append(slices.Clone(withs), s.Name))
				} else {
					walk(s.Body, withs)
				}
				walk(s.Else, withs)
			}
		}
		walk(d.Body, nil)
	}
	return l
}

func (l *model) count(kinds ...int) int {
	n := 0
	for _, d := range l.Decls {
		if slices.Contains(kinds, d.Kind) {
			n++
		}
	}
	return n
}

// is tells whether a name is that of a declaration of one of those kinds, and which.
func (l *model) is(name string, kinds ...int) (api.Decl, bool) {
	for _, d := range l.Decls {
		if d.Name == name && slices.Contains(kinds, d.Kind) {
			return d, true
		}
	}
	return api.Decl{}, false
}

func (s site) held(lock string) bool {
	return lock != "" && lock == s.body.By || slices.Contains(s.withs, lock)
}

func (l *model) isPlain(s site, name string) bool {
	d, ok := l.is(name, api.DeclInt)
	return slices.Contains(s.vars, name) || ok && d.N == 0 && s.held(d.By)
}

func (l *model) isArray(s site, name string) bool {
	d, ok := l.is(name, api.DeclInt)
	return ok && d.N != 0 && s.held(d.By)
}

func (l *model) numbersHold() bool {
	for _, d := range l.Decls {
		_, lock := l.is(d.By, api.DeclLock, api.DeclTicket)
		if d.Kind == api.DeclQueue && (d.N < 1 || d.N > 8) || d.Kind == api.DeclInt && d.N > 64 || d.By != "" && !lock || d.Count > 4 || d.Rank > 9 {
			return false
		}
	}
	return true
}

func (l *model) varsHold() bool {
	for _, d := range l.Decls {
		vars := slices.Clone(d.Params)
		for _, s := range l.sites {
			if s.body.Name == d.Name && s.stmt.Kind == api.StVar {
				vars = append(vars, s.stmt.Name)
			}
		}
		slices.Sort(vars)
		if len(vars) > 24 || len(slices.Compact(slices.Clone(vars))) != len(vars) {
			return false
		}
		for _, v := range vars {
			if _, ok := l.is(v, 1, 2, 3, 4, 5, 6); ok {
				return false
			}
		}
	}
	return true
}

// expsOf are a statement's own expressions, the parts with them.
func (l *model) expsOf(s api.Stmt) []api.Exp {
	roots := slices.Clone(s.Args)
	switch s.Kind {
	case api.StSetAt:
		roots = append(roots, s.I, s.E)
	case api.StVar, api.StSet, api.StPut, api.StIf, api.StWhile, api.StPrint, api.StReturn:
		roots = append(roots, s.E)
	}
	var all []api.Exp
	for len(roots) > 0 {
		e := l.Exps[roots[0]]
		roots = roots[1:]
		all = append(all, e)
		if e.Kind >= api.ExpIndex {
			roots = append(roots, e.L)
		}
		if e.Kind == api.ExpTwo {
			roots = append(roots, e.R)
		}
	}
	return all
}

func (l *model) siteHolds(s site) bool {
	for _, e := range l.expsOf(s.stmt) {
		if e.Kind == api.ExpName && !l.isPlain(s, e.Name) || e.Kind == api.ExpIndex && !l.isArray(s, e.Name) {
			return false
		}
	}
	name := s.stmt.Name
	switch s.stmt.Kind {
	case api.StSet:
		return l.isPlain(s, name)
	case api.StSetAt:
		return l.isArray(s, name)
	case api.StCall:
		d, ok := l.is(s.stmt.Fun, api.DeclFunc)
		rank := s.body.Rank
		if s.body.Kind == api.DeclThread {
			rank = 10
		}
		return (name == "" || slices.Contains(s.vars, name)) && ok && len(s.stmt.Args) == d.Count && d.Rank < rank && (d.By == "" || s.held(d.By))
	case api.StGet, api.StPut:
		_, ok := l.is(s.stmt.Fun, api.DeclQueue)
		return (name == "" || slices.Contains(s.vars, name)) && ok
	case api.StWith:
		_, ok := l.is(name, api.DeclLock, api.DeclTicket)
		return ok && !s.held(name)
	case api.StReturn:
		return s.body.Kind == api.DeclFunc && len(s.withs) == 0
	}
	return true
}

// modelModule is the chapter's P16.1.
func modelModule(m api.Module) api.Errno {
	if _, e := parse.Print(m); e != api.OK {
		return api.ErrArg
	}
	l := newModel(m)
	if l.count(api.DeclFunc, api.DeclThread) > 40 || l.count(api.DeclLock, api.DeclTicket, api.DeclQueue, api.DeclInt) > 40 {
		return api.ErrLarge
	}
	for i, d := range m.Decls {
		if slices.ContainsFunc(m.Decls[:i], func(o api.Decl) bool { return o.Name == d.Name }) {
			return api.ErrDuplicate
		}
	}
	if !l.numbersHold() || !l.varsHold() {
		return api.ErrType
	}
	for _, s := range l.sites {
		if !l.siteHolds(s) {
			return api.ErrType
		}
	}
	return api.OK
}

// modelFit is the chapter's P16.3.
func modelFit(l []api.Module) api.Errno {
	if len(l) > 8 {
		return api.ErrArg
	}
	for _, m := range l {
		if e := modelModule(m); e != api.OK {
			return e
		}
	}
	var gives, needs []api.Decl
	threads := 0
	for _, m := range l {
		for _, d := range m.Decls {
			if d.Kind == api.DeclThread {
				threads++
			}
			if d.Extern {
				needs = append(needs, d)
			} else {
				gives = append(gives, d)
			}
		}
	}
	find := func(l []api.Decl, name string) int {
		return slices.IndexFunc(l, func(d api.Decl) bool { return d.Name == name })
	}
	for i, d := range gives {
		if find(gives[:i], d.Name) >= 0 {
			return api.ErrDuplicate
		}
	}
	for _, d := range needs {
		if find(gives, d.Name) < 0 {
			return api.ErrUndefined
		}
	}
	for _, d := range needs {
		g := gives[find(gives, d.Name)]
		if g.Kind == api.DeclTicket {
			g.Kind = api.DeclLock
		}
		if g.Kind != d.Kind || g.N != d.N || g.By != d.By || g.Count != d.Count || g.Rank != d.Rank {
			return api.ErrInterface
		}
	}
	if threads < 1 || threads > 4 {
		return api.ErrLarge
	}
	return api.OK
}

// maker makes sources up, of which some hold, and the others are near.
type maker struct {
	r *rand.Rand
	b strings.Builder
	v int // how many variables
}

// pick is one of the words, but now and then any name at all.
func (k *maker) pick(words string) string {
	if k.r.Intn(60) == 0 {
		words = "l k q r x y a b f g h t v w p zz"
	}
	return k.one(words)
}

func (k *maker) one(words string) string {
	l := strings.Fields(words)
	return l[k.r.Intn(len(l))]
}

func (k *maker) variable() string {
	if k.v == 0 || k.r.Intn(40) == 0 {
		return k.pick("p")
	}
	return "v" + strconv.Itoa(k.r.Intn(k.v))
}

// exp: under l are x and a, under k are y and b.
func (k *maker) exp(held string, depth int) string {
	choice := k.r.Intn(7)
	if depth == 0 {
		choice = k.r.Intn(2)
	}
	switch choice {
	case 0:
		return strconv.Itoa(k.r.Intn(3))
	case 1:
		return k.variable()
	case 2:
		if strings.Contains(held, "l") {
			return k.pick("x")
		}
		return k.variable()
	case 3:
		if strings.Contains(held, "k") {
			return k.pick("b") + "[" + k.exp(held, depth-1) + "]"
		}
		return "1"
	case 4:
		return "-" + k.exp(held, depth-1)
	}
	return "(" + k.exp(held, depth-1) + k.one("+ - < && ||") + k.exp(held, depth-1) + ")"
}

func (k *maker) block(held string, depth int, in string) {
	k.b.WriteString("{ ")
	for range k.r.Intn(4) {
		k.stmt(held, depth, in)
	}
	k.b.WriteString("} ")
}

func (k *maker) stmt(held string, depth int, in string) {
	e := func() string { return k.exp(held, 2) }
	answer := ""
	if k.r.Intn(2) == 0 {
		answer = k.variable() + " = "
	}
	choice := k.r.Intn(11)
	if depth == 0 && choice > 6 {
		choice = 0
	}
	switch choice {
	case 0:
		s := "var v" + strconv.Itoa(k.v) + " = " + e() + "; "
		k.v++
		k.b.WriteString(s)
	case 1:
		k.b.WriteString(k.variable() + " = " + e() + "; ")
	case 2:
		if strings.Contains(held, "l") {
			k.b.WriteString(k.pick("x") + " = " + e() + "; " + k.pick("a") + "[" + e() + "] = " + e() + "; ")
		}
	case 3:
		if in != "f" {
			k.b.WriteString(answer + k.pick("f") + "(" + e() + "); ")
		}
	case 4:
		if strings.Contains(held, "k") && in == "t" {
			k.b.WriteString(answer + "g(" + e() + "," + e() + "); ")
		}
	case 5:
		k.b.WriteString(answer + "get(" + k.pick("q r") + "); " + answer + "put(" + k.pick("q r") + "," + e() + "); ")
	case 6:
		if in == "t" || held != "" && k.r.Intn(10) > 0 {
			k.b.WriteString("print " + e() + "; ")
		} else {
			k.b.WriteString("return " + e() + "; ")
		}
	case 7:
		k.b.WriteString("if (" + e() + ") ")
		k.block(held, depth-1, in)
		k.b.WriteString("else ")
		k.block(held, depth-1, in)
	case 8:
		k.b.WriteString("while (" + e() + ") ")
		k.block(held, depth-1, in)
	default:
		lock := []string{"l", "k"}[k.r.Intn(2)]
		if strings.Contains(held, lock) && k.r.Intn(10) > 0 {
			return
		}
		k.b.WriteString("with " + k.pick(lock) + " ")
		k.block(held+lock, depth-1, in)
	}
}

func (k *maker) source() string {
	k.b.WriteString("lock l; ticket k; queue q 2; extern queue r 8; int x by l; extern int y by k; int a[3] by l; int b[64] by k; ")
	k.b.WriteString("int f(p) rank 1 ")
	k.block("", 3, "f")
	k.v = 0
	k.b.WriteString("int g(p, w) with k rank " + k.one("2 2 2 2 2 2 3 1") + " ")
	k.block("k", 3, "g")
	k.v = 0
	k.b.WriteString("thread t { var p = 1; ")
	for range k.r.Intn(5) {
		k.stmt("", 4, "t")
	}
	k.b.WriteString("}")
	return k.b.String()
}

func TestMadeUp(t *testing.T) {
	r := rand.New(rand.NewSource(16))
	counts := map[api.Errno]int{}
	for range 10000 {
		k := &maker{r: r}
		s := k.source()
		m, e := parse.Parse(s)
		if e != api.OK {
			t.Fatalf("%s: error %d", s, e)
		}
		got, want := check.Module(m), modelModule(m)
		if got != want {
			t.Fatalf("P16.1: %s: error %d; want %d", s, got, want)
		}
		counts[got]++
	}
	if counts[api.OK] < 1000 || counts[api.ErrType] < 1000 {
		t.Errorf("%v", counts)
	}
}

// faces are declarations with which modules may give, or need, one name.
var faces = []string{
	"lock l;", "extern lock l;", "ticket l;", "extern ticket l;", "lock k;", "extern lock k;", "queue q 1;", "extern queue q 1;", "extern queue q 2;",
	"extern lock l; int x by l;", "extern lock l; extern int x by l;", "extern lock k; extern int x by k;", "extern lock l; extern int x[2] by l;",
	"int f() rank 1 { }", "extern int f(0) rank 1;", "extern int f(1) rank 1;", "extern int f(0) rank 2;", "extern lock l; extern int f(0) with l rank 1;",
	"thread t { }", "thread u { }", "thread v { } thread w { }", "extern lock t;", "thread l { }", "", "queue q 9;", "lock l; lock l;", "thread t { x = 1; }",
}

func TestMadeUpFit(t *testing.T) {
	var modules []api.Module
	for _, s := range faces {
		m, e := parse.Parse(s)
		if e != api.OK {
			t.Fatalf("%s: error %d", s, e)
		}
		modules = append(modules, m)
	}
	r := rand.New(rand.NewSource(163))
	counts := map[api.Errno]int{}
	for range 60000 {
		var l []api.Module
		for range r.Intn(10) {
			i := r.Intn(len(modules))
			if r.Intn(3) > 0 {
				i = []int{0, 1, 3, 5, 7, 10, 9, 13, 14, 18, 19}[r.Intn(11)]
			}
			l = append(l, modules[i])
		}
		got, want := check.Fit(l...), modelFit(l)
		if got != want {
			t.Fatalf("P16.3: %+v: error %d; want %d", l, got, want)
		}
		counts[got]++
	}
	for _, e := range []api.Errno{api.OK, api.ErrArg, api.ErrType, api.ErrDuplicate, api.ErrUndefined, api.ErrInterface, api.ErrLarge} {
		if counts[e] < 50 {
			t.Errorf("error %d: %d times", e, counts[e])
		}
	}
}
