package src_test

import (
	"math/rand"
	"strconv"
	"strings"
	"testing"

	"cotter/api"
	"cotter/check"
	"cotter/parse"
)

// thing is what the modules that are made up have: a lock, a queue, a global or a function.
type thing struct {
	kind  string
	name  string
	n     int
	by    string
	count int
	rank  int
}

// maker makes modules up that go together.
type maker struct {
	r      *rand.Rand
	things []thing
	// Of the body that is being made up:
	out     strings.Builder
	vars    []string // those that stand ahead
	made    int      // variables, in all
	held    map[string]bool
	rank    int
	returns bool
	withs   int
	depth   int
}

func (k *maker) of(kind string, fits func(thing) bool) (thing, bool) {
	var l []thing
	for _, g := range k.things {
		if g.kind == kind && fits(g) {
			l = append(l, g)
		}
	}
	if len(l) == 0 {
		return thing{}, false
	}
	return l[k.r.Intn(len(l))], true
}

func anyOne(thing) bool { return true }

func (k *maker) isHeld(g thing) bool { return g.by == "" || k.held[g.by] }

func (k *maker) pick(l ...string) string { return l[k.r.Intn(len(l))] }

var signs = []string{"||", "&&", "|", "^", "&", "==", "!=", "<", "<=", ">", ">=", "<<", ">>", "+", "-", "*", "/", "%", "+", "-"}

func (k *maker) exp(deep int) string {
	choice := k.r.Intn(10)
	if deep == 0 {
		choice = k.r.Intn(5)
	}
	switch choice {
	case 0, 1:
		return k.pick("0", "1", "2", "3", "7", "64", "9223372036854775807")
	case 2, 3:
		if len(k.vars) > 0 {
			return k.pick(k.vars...)
		}
	case 4:
		if g, ok := k.of("int", func(g thing) bool { return k.isHeld(g) && g.n == 0 }); ok {
			return g.name
		}
	case 5:
		if g, ok := k.of("int", func(g thing) bool { return k.isHeld(g) && g.n > 0 }); ok {
			return g.name + "[" + k.index(g, deep-1) + "]"
		}
	case 6:
		return k.pick("-", "!") + "(" + k.exp(deep-1) + ")"
	default:
		return "(" + k.exp(deep-1) + ") " + k.pick(signs...) + " (" + k.exp(deep-1) + ")"
	}
	return strconv.Itoa(k.r.Intn(5))
}

// index is most often one that there is.
func (k *maker) index(g thing, deep int) string {
	if k.r.Intn(12) == 0 {
		return k.exp(deep)
	}
	e := "((" + k.exp(deep) + ") & 15) % " + strconv.Itoa(g.n)
	if k.r.Intn(2) == 0 {
		return strconv.Itoa(k.r.Intn(g.n))
	}
	return e
}

func (k *maker) write(l ...string) {
	k.out.WriteString(strings.Join(l, " ") + "\n")
}

func (k *maker) block(most int) {
	k.write("{")
	k.depth++
	ahead := len(k.vars)
	for range k.r.Intn(most + 1) {
		k.stmt()
	}
	if k.r.Intn(2) == 0 { // a variable stands ahead of what comes behind its block, too
		k.vars = k.vars[:ahead]
	}
	k.depth--
	k.write("}")
}

func (k *maker) answer() string {
	if len(k.vars) == 0 || k.r.Intn(3) == 0 {
		return ""
	}
	return k.pick(k.vars...) + " ="
}

func (k *maker) stmt() {
	choice := k.r.Intn(18)
	if k.depth > 4 && choice >= 10 {
		choice %= 10
	}
	switch choice {
	case 0, 1:
		if k.made < api.MaxVars {
			name := "v" + strconv.Itoa(k.made)
			k.write("var", name, "=", k.exp(2), ";")
			k.made++
			k.vars = append(k.vars, name)
		}
	case 2:
		if len(k.vars) > 0 {
			k.write(k.pick(k.vars...), "=", k.exp(3), ";")
		}
	case 3, 4, 5:
		k.setGlobal()
	case 6, 7:
		k.call()
	case 8:
		g, _ := k.of("queue", anyOne)
		if k.r.Intn(2) == 0 {
			k.write(k.answer(), "get (", g.name, ") ;")
		} else {
			k.write(k.answer(), "put (", g.name, ",", k.exp(1), ") ;")
		}
	case 9:
		k.write("print", k.exp(2), ";")
	case 10, 11:
		k.write("if (", k.exp(2), ")")
		k.block(3)
		if k.r.Intn(2) == 0 {
			k.write("else")
			k.block(3)
		}
	case 12:
		k.loop()
	case 13, 14, 15, 16:
		k.with()
	default:
		if k.returns && k.withs == 0 {
			k.write("return", k.exp(2), ";")
		}
	}
}

func (k *maker) setGlobal() {
	g, ok := k.of("int", k.isHeld)
	switch {
	case !ok:
	case g.n == 0:
		k.write(g.name, "=", k.exp(2), ";")
	default:
		k.write(g.name, "[", k.index(g, 1), "] =", k.exp(2), ";")
	}
}

func (k *maker) call() {
	g, ok := k.of("func", func(g thing) bool { return k.isHeld(g) && g.rank < k.rank })
	if !ok {
		return
	}
	var args []string
	for range g.count {
		args = append(args, k.exp(1))
	}
	k.write(k.answer(), g.name, "(", strings.Join(args, ", "), ") ;")
}

// loop most often has an end.
func (k *maker) loop() {
	name := "v" + strconv.Itoa(k.made)
	if k.made == api.MaxVars || k.r.Intn(6) == 0 {
		k.write("while (", k.exp(1), ")")
		k.block(3)
		return
	}
	k.write("var", name, "= 0 ;")
	k.made++
	k.write("while (", name, "<", strconv.Itoa(k.r.Intn(4)), ") {", name, "=", name, "+ 1 ;", "if (1)")
	k.block(3)
	k.write("}")
}

// with seldom takes locks in such an order, or at such a place, that threads may wait for ever.
func (k *maker) with() {
	g, ok := k.of("lock", func(g thing) bool { return !k.held[g.name] })
	if !ok || (k.returns || g.name < "l1" && k.held["l1"]) && k.r.Intn(5) > 0 {
		return
	}
	k.write("with", g.name)
	k.held[g.name] = true
	k.withs++
	k.block(5)
	k.withs--
	delete(k.held, g.name)
}

// body is a block of its own.
func (k *maker) body(rank int, returns bool, by string, params []string) string {
	k.out.Reset()
	k.vars, k.made = append([]string(nil), params...), len(params)
	k.held = map[string]bool{by: by != ""}
	k.rank, k.returns, k.withs, k.depth = rank, returns, 0, 0
	k.block(14)
	return k.out.String()
}

func (k *maker) lay() {
	locks := []string{"l0", "l1"}
	for _, name := range locks {
		k.things = append(k.things, thing{kind: "lock", name: name})
	}
	for i := range 2 {
		k.things = append(k.things, thing{kind: "queue", name: "q" + strconv.Itoa(i), n: 1 + k.r.Intn(3)})
	}
	for i := range 5 {
		k.things = append(k.things, thing{kind: "int", name: "x" + strconv.Itoa(i), n: max(0, k.r.Intn(6)-2), by: k.pick(locks...)})
	}
	for i := range 4 {
		k.things = append(k.things, thing{kind: "func", name: "f" + strconv.Itoa(i), by: k.pick("", "", "l0", "l1"), count: k.r.Intn(5), rank: k.r.Intn(10)})
	}
}

// declare is a thing's declaration, in the module that gives it or another one.
func (k *maker) declare(g thing, gives bool) string {
	extern, brackets, with := "extern ", "", ""
	if gives {
		extern = ""
	}
	if g.n > 0 {
		brackets = "[" + strconv.Itoa(g.n) + "]"
	}
	if g.by != "" {
		with = " with " + g.by
	}
	switch g.kind {
	case "lock":
		return extern + k.pick("lock ", "ticket ") + g.name + ";\n"
	case "queue":
		return extern + "queue " + g.name + " " + strconv.Itoa(g.n) + ";\n"
	case "int":
		return extern + "int " + g.name + brackets + " by " + g.by + ";\n"
	}
	if !gives {
		return "extern int " + g.name + "(" + strconv.Itoa(g.count) + ")" + with + " rank " + strconv.Itoa(g.rank) + ";\n"
	}
	var params []string
	for i := range g.count {
		params = append(params, "v"+strconv.Itoa(i))
	}
	return "int " + g.name + "(" + strings.Join(params, ", ") + ")" + with + " rank " + strconv.Itoa(g.rank) + " " + k.body(g.rank, true, g.by, params)
}

// sources makes up to three modules up, with one to four threads in all.
func (k *maker) sources() []string {
	k.lay()
	l := make([]string, 1+k.r.Intn(3))
	for _, g := range k.things {
		giver := k.r.Intn(len(l))
		for i := range l {
			l[i] += k.declare(g, i == giver)
		}
	}
	for i := range 1 + k.r.Intn(4) {
		giver := k.r.Intn(len(l))
		l[giver] += "thread t" + strconv.Itoa(i) + " " + k.body(10, false, "", nil)
	}
	return l
}

// modules makes some up that go together.
func modules(t *testing.T, r *rand.Rand) []api.Module {
	t.Helper()
	k := &maker{r: r}
	var l []api.Module
	for _, s := range k.sources() {
		l = append(l, read(t, s))
	}
	if e := check.Fit(l...); e != api.OK {
		t.Fatalf("made up: error %d", e)
	}
	return l
}

func read(t *testing.T, s string) api.Module {
	t.Helper()
	m, e := parse.Parse(s)
	if e != api.OK {
		t.Fatalf("%.400q: error %d", s, e)
	}
	return m
}

func reads(t *testing.T, l ...string) []api.Module {
	t.Helper()
	var all []api.Module
	for _, s := range l {
		all = append(all, read(t, s))
	}
	return all
}
