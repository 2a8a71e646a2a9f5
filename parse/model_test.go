package parse_test

import (
	"reflect"
	"slices"
	"strconv"
	"strings"

	"cotter/api"
	"cotter/lex"
)

// plainer writes a module as the chapter says, and gives up at whatever no source has: a part that is not read whole just when it is its turn, a field that its kind has not, a nesting that is too deep.
type plainer struct {
	m      api.Module
	tokens []string
	exps   int // how many were read whole
	stmts  int
}

type gaveUp struct{}

// modelPrint is false, if there is no plain text.
func modelPrint(m api.Module) (text string, ok bool) {
	defer func() {
		if thrown := recover(); thrown != nil {
			_ = thrown.(gaveUp)
			text, ok = "", false
		}
	}()
	p := &plainer{m: m}
	for _, d := range m.Decls {
		p.decl(d)
	}
	text = strings.Join(p.tokens, " ")
	p.need(p.exps == len(m.Exps) && p.stmts == len(m.Stmts) && len(text) <= 20000)
	return text, true
}

func (p *plainer) need(ok bool) {
	if !ok || len(p.tokens) >= 4000 {
		panic(gaveUp{})
	}
}

func (p *plainer) put(l ...string) {
	p.tokens = append(p.tokens, l...)
	p.need(true)
}

func (p *plainer) name(s string) {
	p.need(lex.Name(s))
	p.put(s)
}

func (p *plainer) size(n int) {
	p.need(n >= 0 && n <= 1000000)
	p.put(strconv.Itoa(n))
}

// alike holds two values against each other, of which the lists may be nil where they are empty.
func alike(a, b any) bool {
	x, y := reflect.ValueOf(a), reflect.ValueOf(b)
	for i := range x.NumField() {
		f, g := x.Field(i), y.Field(i)
		if f.Kind() == reflect.Slice && f.Len() == 0 && g.Len() == 0 {
			continue
		}
		if !reflect.DeepEqual(f.Interface(), g.Interface()) {
			return false
		}
	}
	return true
}

func (p *plainer) decl(d api.Decl) {
	only := api.Decl{Kind: d.Kind, Name: d.Name, Extern: d.Extern}
	if d.Extern {
		p.put("extern")
		p.need(d.Kind != api.DeclThread && d.Kind != api.DeclTicket)
	}
	p.need(d.Kind >= api.DeclLock && d.Kind <= api.DeclThread)
	p.put([]string{"lock", "ticket", "queue", "int", "int", "thread"}[d.Kind-1])
	p.name(d.Name)
	switch d.Kind {
	case api.DeclQueue:
		only.N = d.N
		p.size(d.N)
	case api.DeclInt:
		only.N, only.By = d.N, d.By
		if d.N != 0 {
			p.put("[")
			p.size(d.N)
			p.put("]")
		}
		p.put("by")
		p.name(d.By)
	case api.DeclFunc:
		only.By, only.Rank, only.Count = d.By, d.Rank, d.Count
		p.head(d)
		if !d.Extern {
			only.Params, only.Count, only.Body = d.Params, len(d.Params), d.Body
		}
	case api.DeclThread:
		only.Body = d.Body
	}
	if d.Extern || d.Kind < api.DeclFunc {
		p.put(";")
	} else {
		p.block(d.Body, 0)
	}
	p.need(alike(only, d))
}

func (p *plainer) head(d api.Decl) {
	p.put("(")
	if d.Extern {
		p.size(d.Count)
	}
	for i, name := range d.Params {
		if i > 0 {
			p.put(",")
		}
		p.name(name)
	}
	p.put(")")
	if d.By != "" {
		p.put("with")
		p.name(d.By)
	}
	p.put("rank")
	p.size(d.Rank)
}

func (p *plainer) block(l []int, depth int) {
	p.put("{")
	p.need(depth < 20)
	for _, i := range l {
		p.need(i >= p.stmts && i < len(p.m.Stmts))
		p.stmt(p.m.Stmts[i], depth+1)
		p.need(p.stmts == i)
		p.stmts++
	}
	p.put("}")
}

func (p *plainer) stmt(s api.Stmt, depth int) {
	only := api.Stmt{Kind: s.Kind}
	if s.Kind == api.StCall || s.Kind == api.StGet || s.Kind == api.StPut {
		only.Name, only.Fun = s.Name, s.Fun
		if s.Name != "" {
			p.name(s.Name)
			p.put("=")
		}
	}
	switch s.Kind {
	case api.StVar, api.StSet:
		only.Name, only.E = s.Name, s.E
		if s.Kind == api.StVar {
			p.put("var")
		}
		p.name(s.Name)
		p.put("=")
		p.exp(s.E, 0, depth)
		p.put(";")
	case api.StSetAt:
		only.Name, only.I, only.E = s.Name, s.I, s.E
		p.name(s.Name)
		p.put("[")
		p.exp(s.I, 0, depth+1)
		p.put("]", "=")
		p.exp(s.E, 0, depth)
		p.put(";")
	case api.StCall:
		only.Args = s.Args
		p.name(s.Fun)
		p.put("(")
		for i, e := range s.Args {
			if i > 0 {
				p.put(",")
			}
			p.exp(e, 0, depth)
		}
		p.put(")", ";")
	case api.StGet:
		p.put("get", "(")
		p.name(s.Fun)
		p.put(")", ";")
	case api.StPut:
		only.E = s.E
		p.put("put", "(")
		p.name(s.Fun)
		p.put(",")
		p.exp(s.E, 0, depth)
		p.put(")", ";")
	case api.StIf, api.StWhile:
		only.E, only.Body = s.E, s.Body
		p.put(map[int]string{api.StIf: "if", api.StWhile: "while"}[s.Kind], "(")
		p.exp(s.E, 0, depth)
		p.put(")")
		p.block(s.Body, depth)
		if s.Kind == api.StIf && len(s.Else) > 0 {
			only.Else = s.Else
			p.put("else")
			p.block(s.Else, depth)
		}
	case api.StWith:
		only.Name, only.Body = s.Name, s.Body
		p.put("with")
		p.name(s.Name)
		p.block(s.Body, depth)
	case api.StPrint, api.StReturn:
		only.E = s.E
		p.put(map[int]string{api.StPrint: "print", api.StReturn: "return"}[s.Kind])
		p.exp(s.E, 0, depth)
		p.put(";")
	default:
		p.need(false)
	}
	p.need(alike(only, s))
}

// levelOf is how many levels are looser; of what is no binary operator's, all.
func levelOf(e api.Exp) int {
	for i, signs := range levels {
		if e.Kind == api.ExpTwo && slices.Contains(signs, e.Op) {
			return i
		}
	}
	return len(levels)
}

// exp writes one that stands at that depth, and whose operator must be of that level or a later one.
func (p *plainer) exp(i int, level int, depth int) {
	p.need(i >= p.exps && i < len(p.m.Exps) && depth <= 20)
	e := p.m.Exps[i]
	only := api.Exp{Kind: e.Kind}
	own := levelOf(e)
	if own < level {
		p.put("(")
		p.need(depth < 20)
		depth++
	}
	switch e.Kind {
	case api.ExpNum:
		only.N = e.N
		p.need(e.N >= 0)
		p.put(strconv.FormatInt(e.N, 10))
	case api.ExpName, api.ExpIndex:
		only.Name = e.Name
		p.name(e.Name)
		if e.Kind == api.ExpIndex {
			only.L = e.L
			p.put("[")
			p.need(e.L < i)
			p.exp(e.L, 0, depth+1)
			p.put("]")
		}
	case api.ExpOne:
		only.Op, only.L = e.Op, e.L
		p.need((e.Op == "-" || e.Op == "!") && e.L < i)
		p.put(e.Op)
		p.exp(e.L, len(levels), depth+1)
	case api.ExpTwo:
		only.Op, only.L, only.R = e.Op, e.L, e.R
		p.need(own < len(levels) && e.L < i && e.R < i)
		p.exp(e.L, own, depth)
		p.put(e.Op)
		p.exp(e.R, own+1, depth)
	default:
		p.need(false)
	}
	if own < level {
		p.put(")")
	}
	p.need(only == e && p.exps == i)
	p.exps++
}
