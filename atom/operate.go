package atom

import "cotter/api"

// operate does an operation of an object of its kind: what is answered, and what came of it. Where it does nothing, the object stays as it is.
func operate(a *api.Atom, owner int, do int, arg int64) (int64, int) {
	switch do {
	case api.DoAcquire:
		return 0, acquire(a, owner)
	case api.DoRelease:
		return 0, release(a, owner)
	case api.DoPut:
		return put(a, arg), api.AtomDone
	}
	return get(a), api.AtomDone
}

// acquire waits for the owner itself, too: a lock is not taken twice.
func acquire(a *api.Atom, owner int) int {
	if a.Owner != 0 {
		return api.AtomWaits
	}
	a.Owner = owner
	return api.AtomDone
}

func release(a *api.Atom, owner int) int {
	if a.Owner != owner {
		return api.AtomBad
	}
	a.Owner = 0
	return api.AtomDone
}

// put answers whether the queue took n.
func put(a *api.Atom, n int64) int64 {
	if isBelow(n) || len(a.Items) == a.Cap {
		return 0
	}
	a.Items = append(a.Items, n)
	return 1
}

// get answers the first item, which goes.
func get(a *api.Atom) int64 {
	if len(a.Items) == 0 {
		return -1
	}
	first := a.Items[0]
	a.Items = a.Items[1:]
	return first
}
