package hist_test

import (
	"fmt"
	"math/rand"
	"slices"
	"testing"

	"cotter/api"
	"cotter/atom"
	"cotter/hist"
)

// done is what the objects are when acts were done one by one; false: they can't have been.
func done(objects []api.Atom, l []api.Act, order []int) ([]api.Atom, bool) {
	for _, k := range order {
		a := l[k]
		next, answer, came := atom.Do(objects, a.Thread, a.Do, a.Name, a.Arg)
		if came != api.AtomDone {
			return nil, false
		}
		if a.Back != -1 && (a.Do == api.DoPut || a.Do == api.DoGet) && answer != a.Answer {
			return nil, false
		}
		objects = next
	}
	return objects, true
}

func behind(objects []api.Atom, l []api.Act, order []int) []api.Atom {
	next, _ := done(objects, l, order)
	return next
}

// isOrder is the chapter's word, word by word, of objects and a history that may be.
func isOrder(objects []api.Atom, l []api.Act, order []int) bool {
	count := make([]int, len(l))
	for _, k := range order {
		if k < 0 || k >= len(l) {
			return false
		}
		count[k]++
	}
	for k, a := range l {
		if count[k] > 1 || a.Back != -1 && count[k] == 0 {
			return false
		}
	}
	for i, a := range order {
		for _, b := range order[i+1:] {
			if l[b].Back != -1 && l[b].Back < l[a].Call {
				return false
			}
		}
	}
	_, ok := done(objects, l, order)
	return ok
}

// lists goes through all lists of unlike numbers below n.
func lists(n int, see func([]int)) {
	var list []int
	var more func()
	more = func() {
		see(list)
		for k := range n {
			if !slices.Contains(list, k) {
				list = append(list, k)
				more()
				list = list[:len(list)-1]
			}
		}
	}
	more()
}

// randomHistory may be; its acts are anyhow, with answers that are right now and then.
func randomHistory(r *rand.Rand, n int) []api.Act {
	var l []api.Act
	var at [4]int
	threads := 1 + r.Intn(4)
	for len(l) < n {
		a := api.Act{Thread: r.Intn(threads), Do: 1 + r.Intn(5), Name: []string{"l", "m", "q", "r"}[r.Intn(4)], Arg: int64(r.Intn(4) - 1)}
		if a.Name == "q" || a.Name == "r" {
			a.Do = api.DoPut + r.Intn(2)
			a.Answer = int64(r.Intn(4) - 1)
		} else if r.Intn(20) > 0 {
			a.Do = api.DoAcquire + r.Intn(2)
		}
		if a.Do == api.DoPut {
			a.Answer = int64(r.Intn(2))
		}
		if at[a.Thread] < 0 {
			n--
			continue
		}
		a.Call = at[a.Thread] + r.Intn(3)
		a.Back = a.Call + 1 + r.Intn(6)
		at[a.Thread] = a.Back + 1
		if r.Intn(5) == 0 {
			a.Back, at[a.Thread] = -1, -1
		}
		l = append(l, a)
	}
	r.Shuffle(len(l), func(i int, j int) { l[i], l[j] = l[j], l[i] })
	return l
}

func randomObjects(r *rand.Rand) []api.Atom {
	items := func() []int64 {
		var l []int64
		for range r.Intn(3) {
			l = append(l, int64(r.Intn(3)))
		}
		return l
	}
	return []api.Atom{queue("q", 2, items()...), lock("l", r.Intn(3)), lock("m", 0), queue("r", 2+r.Intn(2), items()...)}
}

// Small histories: each list of numbers is an order just if the chapter's words say so.
func TestAllLists(t *testing.T) {
	r := rand.New(rand.NewSource(13))
	found := 0
	for range 6000 {
		objects, l := randomObjects(r), randomHistory(r, 1+r.Intn(4))
		if e := hist.Check(l); e != api.OK {
			t.Fatalf("P13.1: %+v: error %d", l, e)
		}
		any := false
		lists(len(l), func(order []int) {
			is := isOrder(objects, l, order)
			after, e := hist.After(objects, l, order)
			if is != (e == api.OK) {
				t.Fatalf("P13.3: %v, %+v, %v: error %d; an order: %v", objects, l, order, e, is)
			}
			if is && !same(after, behind(objects, l, order)) {
				t.Fatalf("P13.3: %v, %+v, %v: %v", objects, l, order, after)
			}
			any = any || is
		})
		wantOrder(t, objects, l, any)
		if any {
			found++
		}
	}
	if found < 1000 || found > 5000 {
		t.Errorf("%d histories have an order: too many, or too few, to tell", found)
	}
}

// hasOrder searches all objects at once, and keeps as a text where it was.
func hasOrder(objects []api.Atom, l []api.Act) bool {
	nowhere := map[string]int{}
	var search func(objects []api.Atom, order []int) bool
	search = func(objects []api.Atom, order []int) bool {
		sorted := slices.Sorted(slices.Values(order))
		key := fmt.Sprint(sorted, objects)
		nowhere[key]++
		if nowhere[key] > 1 {
			return false
		}
		missing := slices.IndexFunc(l, func(a api.Act) bool { return a.Back != -1 && !slices.Contains(order, slices.Index(l, a)) })
		if missing < 0 {
			return true
		}
		for k, a := range l {
			early := func(b api.Act) bool {
				return b.Back != -1 && b.Back < a.Call && !slices.Contains(order, slices.Index(l, b))
			}
			if slices.Contains(order, k) || slices.ContainsFunc(l, early) {
				continue
			}
			next, ok := done(objects, l, []int{k})
			if ok && search(next, append(slices.Clone(order), k)) {
				return true
			}
		}
		return false
	}
	return search(objects, nil)
}

// ran is a history as it comes of threads that do what they do at once, at some time between its call and its coming back: it has an order.
func ran(r *rand.Rand, objects []api.Atom, n int) []api.Act {
	var l []api.Act
	within, acted := [4]int{-1, -1, -1, -1}, [4]bool{}
	for time := 0; len(l) < n && time < 20*n; time++ {
		t := r.Intn(4)
		k := within[t]
		switch {
		case k < 0:
			within[t], acted[t] = len(l), false
			l = append(l, randomAct(r, objects, t, time))
		case !acted[t]:
			next, answer, came := atom.Do(objects, t, l[k].Do, l[k].Name, l[k].Arg)
			if acted[t] = came == api.AtomDone; acted[t] {
				objects, l[k].Answer = next, answer
			}
		default:
			l[k].Back, within[t] = time, -1
		}
	}
	return l
}

// randomAct is of a thread that lets its lock go, most times, if it has one.
func randomAct(r *rand.Rand, objects []api.Atom, thread int, time int) api.Act {
	o := objects[r.Intn(len(objects))]
	mine := slices.IndexFunc(objects, func(o api.Atom) bool { return o.Owner == thread+1 })
	if mine >= 0 && (o.Cap == 0 || r.Intn(3) > 0) {
		return release(thread, objects[mine].Name, time, -1)
	}
	if o.Cap == 0 {
		return acquire(thread, o.Name, time, -1)
	}
	if r.Intn(2) == 0 {
		return get(thread, o.Name, time, -1, 0)
	}
	return put(thread, o.Name, int64(r.Intn(100)-2), time, -1, 0)
}

func TestWhatRanHasAnOrder(t *testing.T) {
	for seed := range 400 {
		r := rand.New(rand.NewSource(int64(seed)))
		objects := []api.Atom{lock("l", 0), queue("q", 1+r.Intn(8)), lock("m", 0), queue("r", 1+r.Intn(3), 7)}[:1+r.Intn(4)]
		l := ran(r, objects, 60-seed%10)
		order := wantOrder(t, objects, l, true)
		wantAfter(t, objects, l, order, behind(objects, l, order))
		r.Shuffle(len(l), func(i int, j int) { l[i], l[j] = l[j], l[i] })
		wantOrder(t, objects, l, true)
	}
}

// An answer or a time turned: there is an order just if a search of another kind finds one.
func TestWhatDidNotRun(t *testing.T) {
	without := 0
	for seed := range 700 {
		r := rand.New(rand.NewSource(int64(seed)))
		objects := []api.Atom{lock("l", 0), queue("q", 1+r.Intn(3)), queue("r", 1, 7), lock("m", 2)}
		l := ran(r, objects, 6+seed%14)
		turn(r, l)
		want := hasOrder(objects, l)
		wantOrder(t, objects, l, want)
		if !want {
			without++
		}
	}
	if without < 100 || without > 600 {
		t.Errorf("%d histories have no order: too many, or too few, to tell", without)
	}
}

func turn(r *rand.Rand, l []api.Act) {
	for range 1 + r.Intn(3) {
		i, k := r.Intn(len(l)), r.Intn(len(l))
		switch r.Intn(4) {
		case 0:
			l[i].Answer = l[k].Answer
		case 1:
			l[i].Do, l[i].Name, l[k].Do, l[k].Name = l[k].Do, l[k].Name, l[i].Do, l[i].Name
		case 2:
			if l[i].Back > 0 {
				l[i].Back = l[i].Call + 1
			}
		case 3:
			l[i].Arg = l[k].Arg
		}
	}
}
