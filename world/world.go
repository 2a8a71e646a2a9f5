// Package world is what the threads of modules share: globals, atomic objects, and what is seen of a run. It is no layer: sources and the intermediate form run over the same one.
package world

import (
	"slices"

	"cotter/api"
	"cotter/atom"
)

// World is of modules that go together, so that each name is given once.
type World struct {
	globals map[string][]int64
	atoms   map[string]api.Atom
	events  []api.Event
}

// New makes one: all elements are 0, all locks free, all queues empty.
func New(l []api.Module) *World {
	w := &World{globals: map[string][]int64{}, atoms: map[string]api.Atom{}}
	for _, d := range Given(l) {
		w.add(d)
	}
	return w
}

// Given are the declarations of what modules give, in their order.
func Given(l []api.Module) []api.Decl {
	var given []api.Decl
	for _, m := range l {
		for _, d := range m.Decls {
			if !d.Extern {
				given = append(given, d)
			}
		}
	}
	return given
}

func (w *World) add(d api.Decl) {
	switch d.Kind {
	case api.DeclLock, api.DeclTicket:
		w.atoms[d.Name] = api.Atom{Name: d.Name}
	case api.DeclQueue:
		w.atoms[d.Name] = api.Atom{Name: d.Name, Cap: d.N}
	case api.DeclInt:
		w.globals[d.Name] = make([]int64, max(d.N, 1))
	}
}

// Global is a copy of a global's elements: one, if it is no array.
func (w *World) Global(name string) []int64 {
	return slices.Clone(w.globals[name])
}

// Load reads an element, and tells whether there is one.
func (w *World) Load(name string, at int64) (int64, bool) {
	if !w.has(name, at) {
		return 0, false
	}
	return w.globals[name][at], true
}

// Store writes an element, and tells whether there is one.
func (w *World) Store(name string, at int64, n int64) bool {
	if !w.has(name, at) {
		return false
	}
	w.globals[name][at] = n
	return true
}

func (w *World) has(name string, at int64) bool {
	return at >= 0 && at < int64(len(w.globals[name]))
}

// Atomic does an operation of an atomic object: the answer, and what came of it. An operation turns no other object, so the one is handed on alone.
func (w *World) Atomic(thread int, do int, name string, arg int64) (int64, int) {
	l, answer, came := atom.Do([]api.Atom{w.atoms[name]}, thread, do, name, arg)
	w.atoms[name] = l[0]
	return answer, came
}

// See keeps an event.
func (w *World) See(thread int, kind int, n int64) {
	w.events = append(w.events, api.Event{Thread: thread, Kind: kind, N: n})
}

// Events are a copy of what was seen.
func (w *World) Events() []api.Event {
	return slices.Clone(w.events)
}

// Turn is which of some threads a pick names.
func Turn(pick int, threads int) int {
	if pick < 0 {
		pick = -1 - pick
	}
	return pick % threads
}
