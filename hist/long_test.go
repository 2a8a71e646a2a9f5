package hist_test

import (
	"math/rand"
	"slices"
	"strconv"
	"testing"

	"cotter/api"
	"cotter/atom"
)

// oneByOne is acts none of which overlaps another one, in their order, and the numbers by which they are handed out in another.
func oneByOne(r *rand.Rand, objects []api.Atom, n int) ([]api.Act, []int) {
	l, order := make([]api.Act, n), r.Perm(n)
	for i, k := range order {
		a := randomAct(r, objects, r.Intn(4), 3*i)
		next, answer, came := atom.Do(objects, a.Thread, a.Do, a.Name, a.Arg)
		if came != api.AtomDone {
			a.Do = api.DoPrint
		}
		objects, a.Answer, a.Back = next, answer, 3*i+1+i%2
		l[k] = a
	}
	return l, order
}

// Acts one by one have their one order, and with a wrong answer none.
func TestOneByOne(t *testing.T) {
	for seed := range 200 {
		r := rand.New(rand.NewSource(int64(seed)))
		objects := []api.Atom{queue("q", 1+r.Intn(8)), lock("l", 0), queue("r", 2, 1), lock("m", 0)}
		l, want := oneByOne(r, objects, 60-seed%7)
		if got := wantOrder(t, objects, l, true); !slices.Equal(got, want) {
			t.Errorf("P13.4: %+v: %v; want %v", l, got, want)
		}
		wantAfter(t, objects, l, want, behind(objects, l, want))
		for k, a := range l {
			if a.Do == api.DoPut || a.Do == api.DoGet {
				wrong := slices.Clone(l)
				wrong[k].Answer += int64(1 + r.Intn(3))
				wantOrder(t, objects, wrong, false)
				wantNoAfter(t, objects, wrong, want)
			}
		}
	}
}

// The last act may be one that has not come back: then it may lack.
func TestOneByOneWithAnOpenEnd(t *testing.T) {
	r := rand.New(rand.NewSource(1))
	for range 200 {
		objects := []api.Atom{queue("q", 1+r.Intn(8)), lock("l", 0), queue("r", 2, 1)}
		l, want := oneByOne(r, objects, 1+r.Intn(60))
		last := want[len(want)-1]
		l[last].Back, l[last].Answer = -1, 77
		got := wantOrder(t, objects, l, true)
		if !slices.Equal(got, want) && !slices.Equal(got, want[:len(want)-1]) {
			t.Errorf("P13.4: %+v: %v; want %v", l, got, want)
		}
		wantAfter(t, objects, l, want, behind(objects, l, want))
		wantAfter(t, objects, l, want[:len(want)-1], behind(objects, l, want[:len(want)-1]))
	}
}

// cut leaves out what is called from a time on, and has not come back what came back from then on.
func cut(l []api.Act, time int) []api.Act {
	var short []api.Act
	for _, a := range l {
		if a.Call >= time {
			continue
		}
		if a.Back >= time {
			a.Back, a.Answer = -1, 0
		}
		short = append(short, a)
	}
	return short
}

// A history that has an order has one when it is cut short at each Call.
func TestCutShort(t *testing.T) {
	for seed := range 60 {
		r := rand.New(rand.NewSource(int64(seed)))
		objects := []api.Atom{queue("q", 1+r.Intn(4), 3), lock("l", 0), queue("r", 1), lock("m", 0)}
		l := ran(r, objects, 60)
		wantOrder(t, objects, l, true)
		for _, a := range l {
			wantOrder(t, objects, cut(l, a.Call), true)
		}
	}
	for _, l := range have() {
		for _, a := range l {
			wantOrder(t, start(), cut(l, a.Call), true)
		}
	}
}

// blocks is acts of four threads at once, four by four, of which each takes a queue's two next places.
func blocks(queues int) ([]api.Atom, []api.Act) {
	var objects []api.Atom
	var l []api.Act
	for i := range queues {
		name := "q" + strconv.Itoa(i)
		objects = append(objects, queue(name, 8))
		for range 2 {
			time := 10 * len(l)
			for thread := range 4 {
				l = append(l, put(thread, name, int64(len(l)), time, time+1, 1))
			}
		}
	}
	return objects, l
}

// Queues that each may have many orders: the orders of one do not multiply those of another.
func TestManyQueues(t *testing.T) {
	objects, l := blocks(7)
	wantOrder(t, objects, l, true)
	wrong := append(slices.Clone(l), get(0, "q6", 1000, 1001, 1000))
	wantOrder(t, objects, wrong, false)
	wrong[len(l)] = get(0, "q0", 1000, 1001, 7)
	wantOrder(t, objects, wrong, false)
	wrong[len(l)] = get(0, "q0", 1000, 1001, 3)
	order := wantOrder(t, objects, wrong, true)
	if order[0] != 3 {
		t.Errorf("P13.2: %v; want 3 ahead of all", order)
	}
}

// staggered is acts that overlap those of the other threads by three quarters.
func staggered(n int, act func(k int, thread int, call int, back int) api.Act) []api.Act {
	var l []api.Act
	for k := range n {
		l = append(l, act(k, k%4, 2*k, 2*k+7))
	}
	return l
}

// One queue with far more orders than can be gone through one by one.
func TestManyOrders(t *testing.T) {
	objects := []api.Atom{queue("q", 8)}
	l := staggered(59, func(k int, thread int, call int, back int) api.Act {
		if k < 8 {
			return put(thread, "q", int64(k), call, back, 1)
		}
		return put(thread, "q", int64(k), call, back, 0)
	})
	for answer, want := range map[int64]bool{0: true, 3: true, 4: false, 9: false} {
		wantOrder(t, objects, append(slices.Clone(l), get(0, "q", 1000, 1001, answer)), want)
	}
}

// A lock that goes from thread to thread, with a thread that asks for it for ever.
func TestManyHolders(t *testing.T) {
	objects := []api.Atom{lock("l", 0)}
	l := []api.Act{acquire(3, "l", 0, -1)}
	for k := range 29 {
		thread := k % 3
		l = append(l, acquire(thread, "l", 10*k, 10*k+8), release(thread, "l", 10*k+9, 10*k+18))
	}
	order := wantOrder(t, objects, l, true)
	wantAfter(t, objects, l, order, behind(objects, l, order))
	l = append(l, release(3-1, "l", 1000, 1001))
	wantOrder(t, objects, l, false)
}

// Objects that no act is of cost little.
func TestManyObjects(t *testing.T) {
	var objects []api.Atom
	for k := range 20000 {
		objects = append(objects, queue("q"+strconv.Itoa(k), 1), lock("l"+strconv.Itoa(k), 0))
	}
	var l []api.Act
	for k := range 60 {
		l = append(l, put(k%4, "q"+strconv.Itoa(k*331), int64(k), 2*k, 2*k+7, 1))
	}
	order := wantOrder(t, objects, l, true)
	want := copyOf(objects)
	for k := range 60 {
		want[2*k*331].Items = []int64{int64(k)}
	}
	wantAfter(t, objects, l, order, want)
}
