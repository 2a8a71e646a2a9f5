package atom_test

import (
	"math/rand"
	"slices"
	"testing"

	"cotter/api"
	"cotter/atom"
)

// model has the owners of locks and the items of queues apart, by their names, each queue a channel with room for its items.
type model struct {
	owners map[string]int
	queues map[string]chan int64
}

func (m model) do(thread int, do int, name string, arg int64) (int64, int) {
	owner, isLock := m.owners[name]
	q, isQueue := m.queues[name]
	switch {
	case thread < 0 || thread > 3 || do < 1 || do > 5:
		return 0, 2
	case do == 5:
		return 0, 0
	case do <= 2 && !isLock || do >= 3 && !isQueue:
		return 0, 2
	}
	switch do {
	case 1:
		if owner != 0 {
			return 0, 1
		}
		m.owners[name] = thread + 1
		return 0, 0
	case 2:
		if owner != thread+1 {
			return 0, 2
		}
		m.owners[name] = 0
		return 0, 0
	case 3:
		if arg < 0 {
			return 0, 0
		}
		select {
		case q <- arg:
			return 1, 0
		default:
			return 0, 0
		}
	}
	select {
	case n := <-q:
		return n, 0
	default:
		return -1, 0
	}
}

// holds tells whether objects are as the model says, each queue's items in their order.
func (m model) holds(l []api.Atom) bool {
	for _, a := range l {
		if a.Cap == 0 && a.Owner != m.owners[a.Name] {
			return false
		}
		if a.Cap > 0 && !slices.Equal(a.Items, itemsOf(m.queues[a.Name])) {
			return false
		}
	}
	return len(l) == len(m.owners)+len(m.queues)
}

func itemsOf(q chan int64) []int64 {
	var l []int64
	for range len(q) {
		n := <-q
		l = append(l, n)
		q <- n
	}
	return l
}

func newModel(l []api.Atom) model {
	m := model{map[string]int{}, map[string]chan int64{}}
	for _, a := range l {
		if a.Cap == 0 {
			m.owners[a.Name] = a.Owner
			continue
		}
		m.queues[a.Name] = make(chan int64, a.Cap)
		for _, n := range a.Items {
			m.queues[a.Name] <- n
		}
	}
	return m
}

func randomObjects(r *rand.Rand) []api.Atom {
	var l []api.Atom
	for _, name := range []string{"a", "b", "c", "d"} {
		switch r.Intn(3) {
		case 0:
			l = append(l, lock(name, r.Intn(5)))
		case 1:
			a := queue(name, 1+r.Intn(8))
			for range r.Intn(a.Cap + 1) {
				a.Items = append(a.Items, int64(r.Intn(100)))
			}
			l = append(l, a)
		}
	}
	r.Shuffle(len(l), func(i int, j int) { l[i], l[j] = l[j], l[i] })
	return l
}

// An operation turns the object that it names, and no other one; what may be still may be.
func TestAgainstAModel(t *testing.T) {
	r := rand.New(rand.NewSource(11))
	came := [3]int{}
	for range 2000 {
		l := randomObjects(r)
		m := newModel(l)
		for range 40 {
			thread, do, name, arg := r.Intn(4), 1+r.Intn(5), string(rune('a'+r.Intn(5))), int64(r.Intn(40)-4)
			if r.Intn(20) == 0 {
				thread, do = r.Intn(7)-1, r.Intn(8)
			}
			was := copyOf(l)
			next, answer, c := atom.Do(l, thread, do, name, arg)
			wantAnswer, wantCame := m.do(thread, do, name, arg)
			if answer != wantAnswer || c != wantCame || !m.holds(next) {
				t.Fatalf("P11.2: %v: thread %d, do %d, %q, %d: %v, %d, %d; want %d, %d", was, thread, do, name, arg, next, answer, c, wantAnswer, wantCame)
			}
			if atom.Check(next) != api.OK {
				t.Fatalf("P11.3: %v may not be", next)
			}
			for k := range next {
				if next[k].Name != was[k].Name || next[k].Cap != was[k].Cap || next[k].Name != name && !sameAtom(next[k], was[k]) {
					t.Fatalf("P11.3: %v: of %q: %v", was, name, next)
				}
			}
			if !same(l, was) {
				t.Fatalf("R5: %v: then %v", was, l)
			}
			came[c]++
			l = next
		}
	}
	if min(came[0], came[1], came[2]) < 1000 {
		t.Errorf("too few of one kind: %v", came)
	}
}

// What is put is got in its order, each once.
func TestFirstInFirstOut(t *testing.T) {
	r := rand.New(rand.NewSource(12))
	for size := 1; size <= api.MaxCap; size++ {
		l := []api.Atom{queue("q", size), queue("p", size, 77)}
		var put, got []int64
		for k := range 400 {
			var answer int64
			if r.Intn(2) == 0 {
				l, answer, _ = atom.Do(l, r.Intn(4), api.DoPut, "q", int64(k))
				if answer == 1 {
					put = append(put, int64(k))
				}
				continue
			}
			l, answer, _ = atom.Do(l, r.Intn(4), api.DoGet, "q", 0)
			if answer >= 0 {
				got = append(got, answer)
			}
		}
		if n := len(l[0].Items); len(got) < 50 || !slices.Equal(append(got, l[0].Items...), put) || n > size {
			t.Errorf("P11.3: of %d: put %v, got %v, left %v", size, put, got, l[0].Items)
		}
	}
}

// roomy has spare room behind the objects and behind each one's items, filled so that a write there is seen.
func roomy(l []api.Atom) []api.Atom {
	next := make([]api.Atom, len(l), len(l)+3)
	for k, a := range l {
		items := make([]int64, len(a.Items), len(a.Items)+9)
		copy(items, a.Items)
		spoil(items[:cap(items)][len(items):])
		a.Items = items
		next[k] = a
	}
	return next
}

func spoil(l []int64) {
	for k := range l {
		l[k] = 4242
	}
}

func spoiled(l []int64) bool {
	return !slices.ContainsFunc(l, func(n int64) bool { return n != 4242 })
}

// spoilAll writes into all that an answer has, its spare room too.
func spoilAll(l []api.Atom) {
	l = l[:cap(l)]
	for k := range l {
		spoil(l[k].Items[:cap(l[k].Items)])
		l[k] = api.Atom{Name: "spoiled", Items: l[k].Items}
	}
}

func TestNothingIsSharedOrKept(t *testing.T) {
	r := rand.New(rand.NewSource(13))
	objects := append(mayBe(), mayNotBe()...)
	for range 300 {
		objects = append(objects, randomObjects(r))
	}
	for _, plain := range objects {
		for do := 0; do <= 6; do++ {
			for _, name := range []string{"l", "q", "a", "b", "c", "d"} {
				l := roomy(plain)
				next, _, _ := atom.Do(l, 0, do, name, 9)
				want := copyOf(next)
				spoilAll(next)
				if !same(l, plain) {
					t.Fatalf("R5: the answer shares: %v, then %v", plain, l)
				}
				for _, a := range l {
					if !spoiled(a.Items[:cap(a.Items)][len(a.Items):]) {
						t.Fatalf("R5: spare room of %v is written", plain)
					}
				}
				again, _, _ := atom.Do(l, 0, do, name, 9)
				spoilAll(l)
				if !same(again, want) {
					t.Fatalf("R5, R6: %v: %v, then %v", plain, want, again)
				}
			}
		}
	}
}

// No two lists of one answer share memory: each is written, its spare room too, and the others stay.
func TestListsOfAnAnswerAreApart(t *testing.T) {
	for do := api.DoAcquire; do <= api.DoPrint; do++ {
		l := []api.Atom{queue("p", 3, 1), queue("q", 3, 1, 2), queue("r", 3, 1), queue("s", 3)}
		next, _, _ := atom.Do(l, 0, do, "q", 9)
		for k := range next {
			items := next[k].Items
			others := copyOf(next)
			spoil(items[:cap(items)])
			for i := range next {
				if i != k && !sameAtom(next[i], others[i]) {
					t.Errorf("R5: do %d: %v, then %v", do, others, next)
				}
			}
		}
	}
}
