package hist

import (
	"slices"

	"cotter/api"
)

// part is the acts of one object, or those of none, each with its number in the whole history.
type part struct {
	object  []api.Atom
	acts    []api.Act
	numbers []int
}

func partsOf(objects []api.Atom, l []api.Act) []part {
	var parts []part
	for k, a := range l {
		object := objectOf(objects, a)
		i := slices.IndexFunc(parts, func(p part) bool { return slices.EqualFunc(p.object, object, sameName) })
		if i < 0 {
			i = len(parts)
			parts = append(parts, part{object: object})
		}
		parts[i].acts = append(parts[i].acts, a)
		parts[i].numbers = append(parts[i].numbers, k)
	}
	return parts
}

func sameName(a api.Atom, b api.Atom) bool {
	return a.Name == b.Name
}

// place is where a search was: which acts were done, and what of the object they can have turned.
type place struct {
	done  set
	owner int
	count int
	items [api.MaxCap]int64
}

func placeOf(done set, object []api.Atom) place {
	p := place{done: done}
	for _, o := range object {
		p.owner, p.count = o.Owner, len(o.Items)
		copy(p.items[:], o.Items)
	}
	return p
}

// order is one of the part's acts, as if there were no others.
func (p part) order() ([]int, bool) {
	order, ok := find(p.object, p.acts)
	for i, k := range order {
		order[i] = p.numbers[k]
	}
	return order, ok
}

// find searches for an order of acts that are all of one object, or of none.
func find(object []api.Atom, l []api.Act) ([]int, bool) {
	early, must := earlyOf(l), backOf(l)
	nowhere := map[place]struct{}{}
	var order []int
	var search func(done set, object []api.Atom) bool
	search = func(done set, object []api.Atom) bool {
		if done.hasAll(must) {
			return true
		}
		here := placeOf(done, object)
		if _, known := nowhere[here]; known {
			return false
		}
		for k, a := range l {
			if done.has(k) || !done.hasAll(early[k]) {
				continue
			}
			next, ok := do(object, a)
			if !ok {
				continue
			}
			order = append(order, k)
			if search(done.with(k), next) {
				return true
			}
			order = order[:len(order)-1]
		}
		nowhere[here] = struct{}{}
		return false
	}
	ok := search(0, object)
	return order, ok
}

// earlyOf are, for each act, those that are ahead of it.
func earlyOf(l []api.Act) []set {
	early := make([]set, len(l))
	for k, a := range l {
		for i, b := range l {
			if isAhead(b, a) {
				early[k] = early[k].with(i)
			}
		}
	}
	return early
}

// merge makes one order of several, each of another object's acts. None can be stuck: of acts that wait for one another in a circle, one would be ahead of another one that its own object's order has ahead of it.
func merge(l []api.Act, orders [][]int) []int {
	var order []int
	for {
		i := slices.IndexFunc(orders, func(o []int) bool { return len(o) > 0 && !waits(l, orders, o[0]) })
		if i < 0 {
			return order
		}
		order = append(order, orders[i][0])
		orders[i] = orders[i][1:]
	}
}

// waits tells whether one of the acts that are still to be merged is ahead of act k.
func waits(l []api.Act, orders [][]int, k int) bool {
	for _, o := range orders {
		if slices.ContainsFunc(o, func(a int) bool { return isAhead(l[a], l[k]) }) {
			return true
		}
	}
	return false
}
