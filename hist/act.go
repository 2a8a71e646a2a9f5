package hist

import (
	"slices"

	"cotter/api"
	"cotter/atom"
)

// maxActs is few enough for a set of acts to be one word's bits.
const maxActs = 60

// set is a set of acts, by their numbers.
type set uint64

func (s set) has(k int) bool {
	return s&(1<<k) != 0
}

func (s set) with(k int) set {
	return s | 1<<k
}

func (s set) hasAll(other set) bool {
	return other&^s == 0
}

// mayBe leaves open what other acts the thread has.
func mayBe(a api.Act) bool {
	return a.Thread >= 0 && a.Thread < api.MaxThreads && a.Call >= 0 && (a.Back == -1 || a.Back > a.Call)
}

func isBack(a api.Act) bool {
	return a.Back >= 0
}

func isAhead(a api.Act, b api.Act) bool {
	return isBack(a) && a.Back < b.Call
}

// backOf are the acts that every order must have.
func backOf(l []api.Act) set {
	var back set
	for k, a := range l {
		if isBack(a) {
			back = back.with(k)
		}
	}
	return back
}

// objectOf is a piece of the objects: the one that an act is of, or none. (A print has none, whatever its name.)
func objectOf(objects []api.Atom, a api.Act) []api.Atom {
	i := slices.IndexFunc(objects, func(o api.Atom) bool { return o.Name == a.Name })
	if i < 0 || a.Do == api.DoPrint {
		return nil
	}
	return objects[i : i+1]
}

// do is the act's object behind it; false: the act can't have been done there, or would have had another answer.
func do(object []api.Atom, a api.Act) ([]api.Atom, bool) {
	next, answer, came := atom.Do(object, a.Thread, a.Do, a.Name, a.Arg)
	return next, came == api.AtomDone && (answer == a.Answer || !isBack(a) || !answers(a))
}

// answers is of the acts that have an answer to be wrong.
func answers(a api.Act) bool {
	return a.Do == api.DoPut || a.Do == api.DoGet
}
