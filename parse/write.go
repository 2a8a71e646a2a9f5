package parse

import (
	"strconv"

	"cotter/api"
)

// writer writes a module's tokens. The module may be any one, with circles too: the writer panics where there is nothing to write, or more than a source may have, and write recovers that.
type writer struct {
	api.Module
	text []byte
}

func (w *writer) put(l ...string) {
	for _, token := range l {
		if len(w.text)+len(token) > api.MaxSource {
			panic(api.ErrArg)
		}
		if len(w.text) > 0 {
			w.text = append(w.text, ' ')
		}
		w.text = append(w.text, token...)
	}
}

// all keeps too many expressions away first: each one has a token of its own, and a chain of them is written by as deep a recursion.
func (w *writer) all() {
	if len(w.Exps) > api.MaxTokens {
		panic(api.ErrArg)
	}
	for _, d := range w.Decls {
		w.decl(d)
	}
}

func (w *writer) decl(d api.Decl) {
	if d.Extern {
		w.put("extern")
	}
	switch d.Kind {
	case api.DeclLock:
		w.put("lock", d.Name, ";")
	case api.DeclTicket:
		w.put("ticket", d.Name, ";")
	case api.DeclQueue:
		w.put("queue", d.Name, strconv.Itoa(d.N), ";")
	case api.DeclInt:
		w.global(d)
	case api.DeclFunc:
		w.function(d)
	case api.DeclThread:
		w.put("thread", d.Name)
		w.block(d.Body)
	default:
		panic(api.ErrArg)
	}
}

func (w *writer) global(d api.Decl) {
	w.put("int", d.Name)
	if d.N != 0 {
		w.put("[", strconv.Itoa(d.N), "]")
	}
	w.put("by", d.By, ";")
}

func (w *writer) function(d api.Decl) {
	w.put("int", d.Name, "(")
	if d.Extern {
		w.put(strconv.Itoa(d.Count))
	} else {
		w.params(d.Params)
	}
	w.put(")")
	if d.By != "" {
		w.put("with", d.By)
	}
	w.put("rank", strconv.Itoa(d.Rank))
	if d.Extern {
		w.put(";")
	} else {
		w.block(d.Body)
	}
}

func (w *writer) params(l []string) {
	for i, name := range l {
		if i > 0 {
			w.put(",")
		}
		w.put(name)
	}
}
