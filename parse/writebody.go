package parse

import (
	"strconv"

	"cotter/api"
)

// block ends in a circle of statements, too: each one puts a token ahead of those inside it.
func (w *writer) block(l []int) {
	w.put("{")
	for _, i := range l {
		if i < 0 || i >= len(w.Stmts) {
			panic(api.ErrArg)
		}
		w.stmt(w.Stmts[i])
	}
	w.put("}")
}

func (w *writer) stmt(s api.Stmt) {
	switch s.Kind {
	case api.StVar:
		w.put("var", s.Name)
		w.value("=", s.E)
	case api.StSet:
		w.put(s.Name)
		w.value("=", s.E)
	case api.StSetAt:
		w.put(s.Name, "[")
		w.exp(s.I)
		w.put("]")
		w.value("=", s.E)
	case api.StCall, api.StGet, api.StPut:
		w.call(s)
	case api.StIf:
		w.choice(s)
	case api.StWhile:
		w.condition("while", s.E)
		w.block(s.Body)
	case api.StWith:
		w.put("with", s.Name)
		w.block(s.Body)
	case api.StPrint:
		w.value("print", s.E)
	case api.StReturn:
		w.value("return", s.E)
	default:
		panic(api.ErrArg)
	}
}

// value writes the end of a statement: an expression, and what stands ahead of it.
func (w *writer) value(ahead string, e int) {
	w.put(ahead)
	w.exp(e)
	w.put(";")
}

func (w *writer) condition(word string, e int) {
	w.put(word, "(")
	w.exp(e)
	w.put(")")
}

func (w *writer) choice(s api.Stmt) {
	w.condition("if", s.E)
	w.block(s.Body)
	if len(s.Else) > 0 {
		w.put("else")
		w.block(s.Else)
	}
}

func (w *writer) call(s api.Stmt) {
	if s.Name != "" {
		w.put(s.Name, "=")
	}
	switch s.Kind {
	case api.StGet:
		w.put("get", "(", s.Fun)
	case api.StPut:
		w.put("put", "(", s.Fun, ",")
		w.exp(s.E)
	default:
		w.put(s.Fun, "(")
		w.args(s.Args)
	}
	w.put(")", ";")
}

func (w *writer) args(l []int) {
	for i, e := range l {
		if i > 0 {
			w.put(",")
		}
		w.exp(e)
	}
}

func (w *writer) exp(e int) {
	w.part(e, len(w.Exps), loosest)
}

// part writes an expression that must stand ahead of another one, since else there might be no end; in parentheses, if it binds less close than it has to.
func (w *writer) part(i int, ahead int, least int) {
	if i < 0 || i >= ahead {
		panic(api.ErrArg)
	}
	e := w.Exps[i]
	if closeness(e) < least {
		w.put("(")
		w.open(e, i)
		w.put(")")
	} else {
		w.open(e, i)
	}
}

// closeness is how close an expression binds its parts.
func closeness(e api.Exp) int {
	if e.Kind == api.ExpTwo {
		return levelOf(e.Op)
	}
	return closest
}

// open writes an expression without parentheses round it.
func (w *writer) open(e api.Exp, at int) {
	switch e.Kind {
	case api.ExpNum:
		w.put(strconv.FormatInt(e.N, 10))
	case api.ExpName:
		w.put(e.Name)
	case api.ExpIndex:
		w.put(e.Name, "[")
		w.part(e.L, at, loosest)
		w.put("]")
	case api.ExpOne:
		w.put(e.Op)
		w.part(e.L, at, closest)
	case api.ExpTwo:
		level := levelOf(e.Op)
		w.part(e.L, at, level)
		w.put(e.Op)
		w.part(e.R, at, level+1)
	default:
		panic(api.ErrArg)
	}
}
