package emit_test

import (
	"math/rand"
	"strconv"
	"strings"
	"testing"

	"cotter/api"
	"cotter/check"
	"cotter/parse"
)

func read(t *testing.T, s string) api.Module {
	t.Helper()
	m, e := parse.Parse(s)
	if e != api.OK {
		t.Fatalf("%.400q: error %d", s, e)
	}
	return m
}

func reads(t *testing.T, sources ...string) []api.Module {
	t.Helper()
	var l []api.Module
	for _, s := range sources {
		l = append(l, read(t, s))
	}
	return l
}

// The frame of what is made up: two modules, each of which needs some of the other one's. Where a % stands, a body comes.
var frame = []string{
	`lock l; extern ticket k; queue q 2; extern queue r 1; int x by l; int a[3] by l; extern int y by k; extern int b[5] by k;
	int f0(p) rank 0 % int f1(p, s) with l rank 1 % extern int g2(3) rank 2; extern int g3(0) with k rank 3; thread t %`,
	`thread u % int g2(p, s, v) rank 2 % ticket k; queue r 1; int y by k; int b[5] by k; int g3() with k rank 3 %
	extern lock l; extern queue q 2; extern int x by l; extern int a[3] by l; extern int f0(1) rank 0; extern int f1(2) with l rank 1; thread w %`,
}

// owns are the bodies of the frame, in its order.
var owns = []struct {
	params string
	by     string
	rank   int
}{
	{"p", "", 0}, {"p s", "l", 1}, {"", "", 10}, {"", "", 10}, {"p s v", "", 2}, {"", "k", 3}, {"", "", 10},
}

// author makes bodies of the frame up.
type author struct {
	*rand.Rand
	text  strings.Builder
	vars  []string // those that stand ahead
	made  int
	held  string // locks, each a letter
	withs int
	rank  int
	depth int
}

func (w *author) say(l ...string) { w.text.WriteString(strings.Join(l, " ") + " ") }

func (w *author) one(l ...string) string { return l[w.Intn(len(l))] }

func (w *author) holds(lock string) bool { return strings.Contains(w.held, lock) }

// globals are those whose locks are held.
func (w *author) globals() (plain, arrays []string) {
	if w.holds("l") {
		plain, arrays = append(plain, "x"), append(arrays, "a")
	}
	if w.holds("k") {
		plain, arrays = append(plain, "y"), append(arrays, "b")
	}
	return plain, arrays
}

func (w *author) leaf() string {
	plain, _ := w.globals()
	names := append(append(plain, w.vars...), w.vars...)
	if len(names) > 0 && w.Intn(3) > 0 {
		return w.one(names...)
	}
	return w.one("0", "0", "1", "1", "2", "3", "4", "63", "9223372036854775807")
}

func (w *author) exp(deep int) string {
	_, arrays := w.globals()
	switch w.Intn(9) {
	case 0:
		return w.leaf()
	case 1:
		if deep > 0 && len(arrays) > 0 {
			return w.one(arrays...) + "[" + w.index(deep-1) + "]"
		}
	case 2:
		if deep > 0 {
			return w.one("-", "!") + "(" + w.exp(deep-1) + ")"
		}
	case 3, 4:
		if deep > 0 {
			return "(" + w.exp(deep-1) + ")" + w.one("&&", "||") + "(" + w.exp(deep-1) + ")"
		}
	default:
		if deep > 0 {
			sign := w.one("|", "^", "&", "==", "!=", "<", "<=", ">", ">=", "<<", ">>", "+", "-", "*", "+", "-", "<", "/", "%")
			return "(" + w.exp(deep-1) + ")" + sign + "(" + w.exp(deep-1) + ")"
		}
	}
	return w.leaf()
}

// index is most often one that there is.
func (w *author) index(deep int) string {
	if w.Intn(8) == 0 {
		return w.exp(deep)
	}
	return "(" + w.exp(deep) + ") & 1"
}

func (w *author) block(most int) {
	w.say("{")
	w.depth++
	for range w.Intn(most + 1) {
		w.stmt()
	}
	w.depth--
	w.say("}")
}

// answer is where an answer goes.
func (w *author) answer() string {
	if len(w.vars) == 0 || w.Intn(3) == 0 {
		return ""
	}
	return w.one(w.vars...) + " ="
}

func (w *author) fresh() string {
	w.made++
	return "v" + strconv.Itoa(w.made)
}

func (w *author) stmt() {
	choice := w.Intn(14)
	if w.depth > 4 {
		choice %= 9
	}
	switch choice {
	case 0, 1:
		if len(w.vars) < 20 {
			name := w.fresh()
			w.say("var", name, "=", w.exp(3), ";")
			w.vars = append(w.vars, name)
		}
	case 2:
		if len(w.vars) > 0 {
			w.say(w.one(w.vars...), "=", w.exp(3), ";")
		}
	case 3, 4:
		w.setGlobal()
	case 5:
		w.call()
	case 6:
		w.say(w.answer(), "get(", w.one("q", "r"), ");")
	case 7:
		w.say(w.answer(), "put(", w.one("q", "r")+",", w.exp(2), ");")
	case 8:
		w.say("print", w.exp(3), ";")
	case 9, 10:
		w.say("if (", w.exp(2), ")")
		w.block(3)
		if w.Intn(2) == 0 {
			w.say("else")
			w.block(3)
		}
	case 11:
		w.loop()
	case 12:
		w.with()
	case 13:
		if w.rank < 10 && w.withs == 0 {
			w.say("return", w.exp(2), ";")
		}
	}
}

func (w *author) setGlobal() {
	plain, arrays := w.globals()
	switch {
	case len(plain) == 0:
		w.with()
	case w.Intn(2) == 0:
		w.say(w.one(plain...), "=", w.exp(2), ";")
	default:
		w.say(w.one(arrays...), "[", w.index(1), "] =", w.exp(2), ";")
	}
}

func (w *author) call() {
	switch w.Intn(4) {
	case 0:
		if w.rank > 0 {
			w.say(w.answer(), "f0(", w.exp(2), ");")
		}
	case 1:
		if w.rank > 1 && w.holds("l") {
			w.say(w.answer(), "f1(", w.exp(1), ",", w.exp(1), ");")
		}
	case 2:
		if w.rank > 2 {
			w.say(w.answer(), "g2(", w.exp(1), ",", w.exp(1), ",", w.exp(1), ");")
		}
	default:
		if w.rank > 3 && w.holds("k") {
			w.say(w.answer(), "g3();")
		}
	}
}

// loop most often has an end.
func (w *author) loop() {
	if len(w.vars) > 19 || w.Intn(8) == 0 {
		w.say("while (", w.exp(1), ")")
		w.block(3)
		return
	}
	name := w.fresh()
	w.vars = append(w.vars, name)
	w.say("var", name, "= 0; while (", name, "<", w.one("1", "2", "3"), ") {", name, "=", name, "+ 1; if (1)")
	w.block(3)
	w.say("}")
}

// with most often takes l ahead of k, so that threads seldom wait for ever.
func (w *author) with() {
	lock := w.one("l", "k")
	if w.holds(lock) || lock == "l" && w.held != "" && w.Intn(8) > 0 {
		return
	}
	was := w.held
	w.held += lock
	w.withs++
	w.say("with", lock)
	w.block(5)
	w.withs--
	w.held = was
}

// sources make modules of the frame up.
func (w *author) sources() []string {
	var l []string
	next := 0
	for _, module := range frame {
		w.text.Reset()
		parts := strings.Split(module, "%")
		for i, part := range parts {
			w.say(part)
			if i == len(parts)-1 {
				continue
			}
			own := owns[next]
			next++
			w.vars, w.made, w.held, w.withs, w.rank, w.depth = strings.Fields(own.params), 0, own.by, 0, own.rank, 0
			w.block(9)
		}
		l = append(l, w.text.String())
	}
	return l
}

// madeUp are modules that go together.
func madeUp(t *testing.T, seed int64) []api.Module {
	t.Helper()
	w := &author{Rand: rand.New(rand.NewSource(seed))}
	l := reads(t, w.sources()...)
	if e := check.Fit(l...); e != api.OK {
		t.Fatalf("seed %d: made up: error %d", seed, e)
	}
	return l
}
