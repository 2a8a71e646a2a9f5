package parse_test

import (
	"math/rand"
	"slices"
	"strconv"
	"strings"

	"cotter/api"
)

// maker makes up modules: their texts, with parentheses and blanks more than are needed, their plain texts, and the lists that are to come of them.
type maker struct {
	r     *rand.Rand
	most  int // how deep
	free  []string
	plain []string
	m     api.Module
	depth int // of what is made up
}

// levels are the chapter's, the loosest one first.
var levels = [][]string{{"||"}, {"&&"}, {"|"}, {"^"}, {"&"}, {"==", "!="}, {"<", "<=", ">", ">="}, {"<<", ">>"}, {"+", "-"}, {"*", "/", "%"}}

var someNames = []string{"a", "b", "x", "v1", "_", "abcdefghijkl", "Lock", "f", "q", "g_2"}

func (k *maker) put(l ...string) {
	k.free = append(k.free, l...)
	k.plain = append(k.plain, l...)
}

func (k *maker) name() string {
	return someNames[k.r.Intn(len(someNames))]
}

func (k *maker) number() int {
	return []int{0, 1, 2, 7, 64, 999999, 1000000}[k.r.Intn(7)]
}

func (k *maker) addExp(e api.Exp) int {
	k.m.Exps = append(k.m.Exps, e)
	return len(k.m.Exps) - 1
}

// exp makes one up of which the operators may stand bare, if they are of that level or a later one. A parenthesis that is needed is in the plain text too.
func (k *maker) exp(level int) int {
	choice := k.r.Intn(9)
	if k.depth >= k.most {
		choice = k.r.Intn(2)
	}
	switch {
	case choice == 0:
		n := []int64{0, 1, 5, 1000001, 1<<63 - 1}[k.r.Intn(5)]
		k.put(strconv.FormatInt(n, 10))
		return k.addExp(api.Exp{Kind: api.ExpNum, N: n})
	case choice == 1:
		name := k.name()
		k.put(name)
		return k.addExp(api.Exp{Kind: api.ExpName, Name: name})
	case choice == 2:
		name := k.name()
		k.put(name, "[")
		l := k.deeper(0)
		k.put("]")
		return k.addExp(api.Exp{Kind: api.ExpIndex, Name: name, L: l})
	case choice == 3:
		sign := []string{"-", "!"}[k.r.Intn(2)]
		k.put(sign)
		return k.addExp(api.Exp{Kind: api.ExpOne, Op: sign, L: k.deeper(len(levels))})
	case choice == 4:
		k.free = append(k.free, "(") // not needed, so not in the plain text
		l := k.deeper(level)
		k.free = append(k.free, ")")
		return l
	}
	own := k.r.Intn(len(levels))
	if own < level {
		k.put("(")
		k.depth++
		l := k.two(own)
		k.depth--
		k.put(")")
		return l
	}
	return k.two(own)
}

func (k *maker) two(own int) int {
	signs := levels[own]
	sign := signs[k.r.Intn(len(signs))]
	k.depth++ // so that exps have an end
	l := k.exp(own)
	k.put(sign)
	r := k.exp(own + 1)
	k.depth--
	return k.addExp(api.Exp{Kind: api.ExpTwo, Op: sign, L: l, R: r})
}

func (k *maker) deeper(level int) int {
	k.depth++
	l := k.exp(level)
	k.depth--
	return l
}

func (k *maker) block(most int) []int {
	k.put("{")
	k.depth++
	var l []int
	for range k.r.Intn(most + 1) {
		s := k.stmt()
		k.m.Stmts = append(k.m.Stmts, s)
		l = append(l, len(k.m.Stmts)-1)
	}
	k.depth--
	k.put("}")
	return l
}

func (k *maker) answer() string {
	if k.r.Intn(2) == 0 {
		return ""
	}
	name := k.name()
	k.put(name, "=")
	return name
}

func (k *maker) stmt() api.Stmt {
	s := api.Stmt{Kind: 1 + k.r.Intn(11)}
	if k.depth >= k.most && (s.Kind == api.StIf || s.Kind == api.StWhile || s.Kind == api.StWith || s.Kind == api.StSetAt) {
		s.Kind = api.StPrint
	}
	switch s.Kind {
	case api.StVar, api.StSet:
		s.Name = k.name()
		if s.Kind == api.StVar {
			k.put("var")
		}
		k.put(s.Name, "=")
		s.E = k.exp(0)
		k.put(";")
	case api.StSetAt:
		s.Name = k.name()
		k.put(s.Name, "[")
		s.I = k.deeper(0)
		k.put("]", "=")
		s.E = k.exp(0)
		k.put(";")
	case api.StCall:
		s.Name, s.Fun = k.answer(), k.name()
		k.put(s.Fun, "(")
		for i := range k.r.Intn(4) {
			if i > 0 {
				k.put(",")
			}
			s.Args = append(s.Args, k.exp(0))
		}
		k.put(")", ";")
	case api.StGet:
		s.Name, s.Fun = k.answer(), k.name()
		k.put("get", "(", s.Fun, ")", ";")
	case api.StPut:
		s.Name, s.Fun = k.answer(), k.name()
		k.put("put", "(", s.Fun, ",")
		s.E = k.exp(0)
		k.put(")", ";")
	case api.StIf:
		k.put("if", "(")
		s.E = k.exp(0)
		k.put(")")
		s.Body = k.block(2)
		if k.r.Intn(2) == 0 {
			k.orElse(&s)
		}
	case api.StWhile:
		k.put("while", "(")
		s.E = k.exp(0)
		k.put(")")
		s.Body = k.block(2)
	case api.StWith:
		s.Name = k.name()
		k.put("with", s.Name)
		s.Body = k.block(3)
	default:
		k.put([]string{"print", "return"}[s.Kind-api.StPrint])
		s.E = k.exp(0)
		k.put(";")
	}
	return s
}

// orElse: an empty one is not in the plain text.
func (k *maker) orElse(s *api.Stmt) {
	plain := len(k.plain)
	k.put("else")
	s.Else = k.block(2)
	if len(s.Else) == 0 {
		k.plain = k.plain[:plain]
	}
}

func (k *maker) decl() {
	d := api.Decl{Kind: 1 + k.r.Intn(6), Name: k.name(), Extern: k.r.Intn(3) == 0}
	if d.Kind == api.DeclThread {
		d.Extern = false
	}
	if d.Extern {
		k.put("extern")
	}
	switch d.Kind {
	case api.DeclLock:
		k.put("lock", d.Name, ";")
	case api.DeclTicket:
		k.put("ticket", d.Name, ";")
		if d.Extern {
			d.Kind = api.DeclLock
			k.plain[len(k.plain)-3] = "lock"
		}
	case api.DeclQueue:
		d.N = k.number()
		k.put("queue", d.Name, strconv.Itoa(d.N), ";")
	case api.DeclInt:
		d.N, d.By = k.number(), k.name()
		k.put("int", d.Name)
		if d.N > 0 {
			k.put("[", strconv.Itoa(d.N), "]")
		}
		k.put("by", d.By, ";")
	case api.DeclFunc:
		k.function(&d)
	default:
		k.put("thread", d.Name)
		d.Body = k.block(4)
	}
	k.m.Decls = append(k.m.Decls, d)
}

func (k *maker) function(d *api.Decl) {
	k.put("int", d.Name, "(")
	d.Count = k.number()
	if d.Extern {
		k.put(strconv.Itoa(d.Count))
	} else {
		d.Count = k.r.Intn(4)
		for i := range d.Count {
			if i > 0 {
				k.put(",")
			}
			d.Params = append(d.Params, k.name())
			k.put(d.Params[i])
		}
	}
	k.put(")")
	if k.r.Intn(2) == 0 {
		d.By = k.name()
		k.put("with", d.By)
	}
	d.Rank = k.number()
	k.put("rank", strconv.Itoa(d.Rank))
	if d.Extern {
		k.put(";")
	} else {
		d.Body = k.block(4)
	}
}

// make makes a module of some declarations up; what nests in exps and blocks is no deeper than most.
func makeUp(r *rand.Rand, most int) *maker {
	k := &maker{r: r, most: most}
	for range r.Intn(5) {
		k.decl()
	}
	return k
}

// spread joins tokens with blanks and notes, or with nothing where nothing is needed.
func spread(r *rand.Rand, tokens []string) string {
	var b strings.Builder
	for i, t := range tokens {
		if i > 0 && (r.Intn(2) == 0 || runTogether(tokens[i-1], t)) {
			b.WriteString([]string{" ", "\t", "\n", "  ", "\t//\n", " // x = 1; }\n", "\n\n\t"}[r.Intn(7)])
		}
		b.WriteString(t)
	}
	return b.String()
}

// runTogether tells whether two tokens would be read otherwise with nothing between them.
func runTogether(a, b string) bool {
	letter := func(c byte) bool {
		return c == '_' || c >= '0' && c <= '9' || c >= 'a' && c <= 'z' || c >= 'A' && c <= 'Z'
	}
	if letter(a[len(a)-1]) || letter(b[0]) {
		return letter(a[len(a)-1]) && letter(b[0])
	}
	return slices.Contains([]string{"&&", "||", "==", "!=", "<=", ">=", "<<", ">>", "//"}, a[len(a)-1:]+b[:1])
}
