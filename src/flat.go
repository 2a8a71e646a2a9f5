package src

import (
	"slices"

	"cotter/api"
)

// flattener lays a body's statements out, one operation behind the other. Numbers are those of the variables that stand ahead.
type flattener struct {
	api.Module
	out     api.Body
	numbers map[string]int
}

// flatten is of a module that holds: so its numbers need no more care, and no variable has the name of a global.
func flatten(m api.Module) []api.Body {
	var l []api.Body
	for _, d := range m.Decls {
		if !d.Extern && (d.Kind == api.DeclFunc || d.Kind == api.DeclThread) {
			f := flattener{Module: m, numbers: map[string]int{}}
			f.body(d)
			l = append(l, f.out)
		}
	}
	return l
}

func (f *flattener) body(d api.Decl) {
	f.out.Name = d.Name
	f.out.Params = len(d.Params)
	for _, name := range d.Params {
		f.declare(name)
	}
	f.block(d.Body)
	if d.Kind == api.DeclThread {
		f.add(api.Flat{Op: api.FlEnd})
	} else {
		f.add(api.Flat{Op: api.FlRet, E: -1})
	}
}

// declare answers the new variable's number.
func (f *flattener) declare(name string) int {
	number := len(f.out.Vars)
	f.numbers[name] = number
	f.out.Vars = append(f.out.Vars, name)
	return number
}

// add answers where the operation stands.
func (f *flattener) add(op api.Flat) int {
	f.out.Code = append(f.out.Code, op)
	return len(f.out.Code) - 1
}

// land lets an operation that was added lead behind all that there is.
func (f *flattener) land(at int) {
	f.out.Code[at].To = len(f.out.Code)
}

func (f *flattener) block(l []int) {
	for _, i := range l {
		f.stmt(f.Stmts[i])
	}
}

func (f *flattener) stmt(s api.Stmt) {
	switch s.Kind {
	case api.StVar:
		f.add(api.Flat{Op: api.FlSet, A: f.declare(s.Name), E: s.E})
	case api.StSet:
		f.set(s)
	case api.StSetAt:
		f.add(api.Flat{Op: api.FlSetG, Name: s.Name, I: s.I, E: s.E})
	case api.StCall:
		f.add(api.Flat{Op: api.FlCall, A: f.answer(s.Name), Name: s.Fun, Args: slices.Clone(s.Args)})
	case api.StGet:
		f.add(api.Flat{Op: api.FlGet, A: f.answer(s.Name), Name: s.Fun})
	case api.StPut:
		f.add(api.Flat{Op: api.FlPut, A: f.answer(s.Name), Name: s.Fun, E: s.E})
	case api.StIf:
		f.choice(s)
	case api.StWhile:
		f.loop(s)
	case api.StWith:
		f.add(api.Flat{Op: api.FlAcq, Name: s.Name})
		f.block(s.Body)
		f.add(api.Flat{Op: api.FlRel, Name: s.Name})
	case api.StPrint:
		f.add(api.Flat{Op: api.FlPrint, E: s.E})
	case api.StReturn:
		f.add(api.Flat{Op: api.FlRet, E: s.E})
	}
}

func (f *flattener) set(s api.Stmt) {
	if number, ok := f.numbers[s.Name]; ok {
		f.add(api.Flat{Op: api.FlSet, A: number, E: s.E})
		return
	}
	f.add(api.Flat{Op: api.FlSetG, Name: s.Name, I: -1, E: s.E})
}

// answer is the number of the variable that takes what comes back.
func (f *flattener) answer(name string) int {
	if name == "" {
		return -1
	}
	return f.numbers[name]
}

func (f *flattener) choice(s api.Stmt) {
	test := f.add(api.Flat{Op: api.FlTest, E: s.E})
	f.block(s.Body)
	if len(s.Else) == 0 {
		f.land(test)
		return
	}
	jump := f.add(api.Flat{Op: api.FlJump})
	f.land(test)
	f.block(s.Else)
	f.land(jump)
}

func (f *flattener) loop(s api.Stmt) {
	test := f.add(api.Flat{Op: api.FlTest, E: s.E})
	f.block(s.Body)
	f.add(api.Flat{Op: api.FlJump, To: test})
	f.land(test)
}
