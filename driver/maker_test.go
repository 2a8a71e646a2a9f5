package driver_test

import (
	"math/rand"
	"slices"
	"strconv"
	"strings"
)

// piece is a declaration, as the module that gives it says it, and as the others do (a thread they do not).
type piece struct {
	own    string
	extern string
}

// author makes up pieces that go together, however they are laid out among modules.
type author struct {
	*rand.Rand
	text  strings.Builder
	vars  []string // those that stand ahead
	made  int
	held  string // locks, each a letter
	withs int
	rank  int
	depth int
}

func (w *author) say(l ...string) { w.text.WriteString(strings.Join(l, " ") + " ") }

func (w *author) one(l ...string) string { return l[w.Intn(len(l))] }

func (w *author) holds(lock string) bool { return strings.Contains(w.held, lock) }

// globals are those whose locks are held.
func (w *author) globals() (plain, arrays []string) {
	if w.holds("l") {
		plain, arrays = append(plain, "x"), append(arrays, "a")
	}
	if w.holds("k") {
		plain, arrays = append(plain, "y"), append(arrays, "b")
	}
	return plain, arrays
}

func (w *author) leaf() string {
	plain, _ := w.globals()
	names := append(append(plain, w.vars...), w.vars...)
	if len(names) > 0 && w.Intn(3) > 0 {
		return w.one(names...)
	}
	return w.one("0", "1", "1", "2", "3", "4", "9223372036854775807")
}

func (w *author) exp(deep int) string {
	_, arrays := w.globals()
	if deep == 0 {
		return w.leaf()
	}
	switch w.Intn(8) {
	case 0, 1:
		return w.leaf()
	case 2:
		if len(arrays) > 0 {
			return w.one(arrays...) + "[" + w.index(deep-1) + "]"
		}
		return w.leaf()
	case 3:
		return w.one("-", "!") + "(" + w.exp(deep-1) + ")"
	case 4:
		return "(" + w.exp(deep-1) + ")" + w.one("&&", "||") + "(" + w.exp(deep-1) + ")"
	}
	sign := w.one("|", "^", "&", "==", "!=", "<", "<=", ">", ">=", "<<", ">>", "+", "-", "*", "+", "-", "<", "/", "%")
	return "(" + w.exp(deep-1) + ")" + sign + "(" + w.exp(deep-1) + ")"
}

// index is most often one that there is.
func (w *author) index(deep int) string {
	if w.Intn(10) == 0 {
		return w.exp(deep)
	}
	return "(" + w.exp(deep) + ") & 1"
}

func (w *author) block(most int) {
	w.say("{")
	w.depth++
	for range 1 + w.Intn(most) {
		w.stmt()
	}
	w.depth--
	w.say("}")
}

// answer is where an answer goes.
func (w *author) answer() string {
	if len(w.vars) == 0 || w.Intn(4) == 0 {
		return ""
	}
	return w.one(w.vars...) + " ="
}

func (w *author) fresh() string {
	w.made++
	return "v" + strconv.Itoa(w.made)
}

func (w *author) stmt() {
	choice := w.Intn(17)
	if w.depth > 3 {
		choice %= 11
	}
	switch choice {
	case 0, 1:
		if len(w.vars) < 20 {
			name := w.fresh()
			w.say("var", name, "=", w.exp(2), ";")
			w.vars = append(w.vars, name)
		}
	case 2:
		if len(w.vars) > 0 {
			w.say(w.one(w.vars...), "=", w.exp(2), ";")
		}
	case 3, 4:
		w.setGlobal()
	case 5:
		w.call()
	case 6, 7:
		w.say(w.answer(), "get(", w.one("q", "r"), ");")
	case 8, 9:
		w.say(w.answer(), "put(", w.one("q", "r")+",", w.exp(1), ");")
	case 10:
		w.say("print", w.exp(2), ";")
	case 11:
		w.say("if (", w.exp(2), ")")
		w.block(3)
		if w.Intn(2) == 0 {
			w.say("else")
			w.block(3)
		}
	case 12:
		w.loop()
	case 13, 14, 15:
		w.with()
	case 16:
		if w.rank < 10 && w.withs == 0 {
			w.say("return", w.exp(2), ";")
		}
	}
}

func (w *author) setGlobal() {
	plain, arrays := w.globals()
	switch {
	case len(plain) == 0:
		w.with()
	case w.Intn(2) == 0:
		w.say(w.one(plain...), "=", w.exp(2), ";")
	default:
		w.say(w.one(arrays...), "[", w.index(1), "] =", w.exp(2), ";")
	}
}

func (w *author) call() {
	switch w.Intn(4) {
	case 0:
		if w.rank > 0 {
			w.say(w.answer(), "f0(", w.exp(2), ");")
		}
	case 1:
		if w.rank > 1 && w.holds("l") {
			w.say(w.answer(), "f1(", w.exp(1), ",", w.exp(1), ");")
		}
	case 2:
		if w.rank > 2 {
			w.say(w.answer(), "g2(", w.exp(1), ",", w.exp(1), ",", w.exp(1), ");")
		}
	default:
		if w.rank > 3 && w.holds("k") {
			w.say(w.answer(), "g3();")
		}
	}
}

// loop most often has an end.
func (w *author) loop() {
	if len(w.vars) > 19 || w.Intn(8) == 0 {
		w.say("while (", w.exp(1), ")")
		w.block(2)
		return
	}
	name := w.fresh()
	w.vars = append(w.vars, name)
	w.say("var", name, "= 0; while (", name, "<", w.one("1", "2", "3"), ") {", name, "=", name, "+ 1; if (1)")
	w.block(3)
	w.say("}")
}

// with most often takes l ahead of k, so that threads seldom wait for ever.
func (w *author) with() {
	lock := w.one("l", "k")
	if w.holds(lock) || lock == "l" && w.held != "" && w.Intn(8) > 0 {
		return
	}
	was := w.held
	w.held += lock
	w.withs++
	w.say("with", lock)
	w.block(4)
	w.withs--
	w.held = was
}

func (w *author) body(by string, rank int, params ...string) string {
	w.text.Reset()
	w.vars, w.made, w.held, w.withs, w.rank, w.depth = slices.Clone(params), 0, by, 0, rank, 0
	w.block(8)
	return w.text.String()
}

// pieces are two locks, two queues, four globals, four functions, and some threads.
func (w *author) pieces(threads ...string) []piece {
	l := []piece{
		{w.one("lock l;", "ticket l;"), w.one("extern lock l;", "extern ticket l;")},
		{w.one("lock k;", "ticket k;"), w.one("extern lock k;", "extern ticket k;")},
		{"queue q 2;", "extern queue q 2;"},
		{"queue r 1;", "extern queue r 1;"},
		{"int x by l;", "extern int x by l;"},
		{"int a[3] by l;", "extern int a[3] by l;"},
		{"int y by k;", "extern int y by k;"},
		{"int b[5] by k;", "extern int b[5] by k;"},
		{"int f0(p) rank 0 " + w.body("", 0, "p"), "extern int f0(1) rank 0;"},
		{"int f1(p, s) with l rank 1 " + w.body("l", 1, "p", "s"), "extern int f1(2) with l rank 1;"},
		{"int g2(p, s, v) rank 2 " + w.body("", 2, "p", "s", "v"), "extern int g2(3) rank 2;"},
		{"int g3() with k rank 3 " + w.body("k", 3), "extern int g3(0) with k rank 3;"},
	}
	for _, name := range threads {
		l = append(l, piece{own: "thread " + name + " " + w.body("", 10)})
	}
	return l
}

// layOut makes modules of pieces: each is given by one of them, at random, and needed by all others.
func layOut(r *rand.Rand, pieces []piece, modules int) []string {
	l := make([]string, modules)
	for _, i := range r.Perm(len(pieces)) {
		giver := r.Intn(modules)
		for m := range l {
			text := pieces[i].extern
			if m == giver {
				text = pieces[i].own
			}
			if r.Intn(2) == 0 {
				l[m] = text + "\n" + l[m]
			} else {
				l[m] += text + "\n"
			}
		}
	}
	return l
}

// madeUp are pieces with up to four threads, and sources of them.
func madeUp(seed int64) ([]piece, []string, *rand.Rand) {
	r := rand.New(rand.NewSource(seed))
	w := &author{Rand: r}
	pieces := w.pieces([]string{"t", "u", "w", "z"}[:1+r.Intn(4)]...)
	return pieces, layOut(r, pieces, 1+r.Intn(3)), r
}
