package atom_test

import (
	"math"
	"slices"
	"strconv"
	"testing"

	"cotter/api"
	"cotter/atom"
)

// The calls have the types that the chapter lists.
var (
	_ func([]api.Atom) api.Errno                                         = atom.Check
	_ func([]api.Atom, int, int, string, int64) ([]api.Atom, int64, int) = atom.Do
)

func lock(name string, owner int) api.Atom {
	return api.Atom{Name: name, Owner: owner}
}

func queue(name string, size int, items ...int64) api.Atom {
	return api.Atom{Name: name, Cap: size, Items: items}
}

func sameAtom(a api.Atom, b api.Atom) bool {
	return a.Name == b.Name && a.Cap == b.Cap && a.Owner == b.Owner && slices.Equal(a.Items, b.Items)
}

func same(a []api.Atom, b []api.Atom) bool {
	return slices.EqualFunc(a, b, sameAtom)
}

func copyOf(l []api.Atom) []api.Atom {
	var next []api.Atom
	for _, a := range l {
		a.Items = append([]int64(nil), a.Items...)
		next = append(next, a)
	}
	return next
}

// call is one of Do, and what is to come of it.
type call struct {
	thread int
	do     int
	name   string
	arg    int64
	answer int64
	came   int
}

// wantDone wants a call of Do to answer that, and what was handed in to be as it was.
func wantDone(t *testing.T, l []api.Atom, c call, want []api.Atom) {
	t.Helper()
	was := copyOf(l)
	for range 2 {
		next, answer, came := atom.Do(l, c.thread, c.do, c.name, c.arg)
		if !same(next, want) || answer != c.answer || came != c.came {
			t.Errorf("P11.2: %v, %v: %v, %d, %d; want %v", was, c, next, answer, came, want)
		}
		if !same(l, was) {
			t.Fatalf("R5: %v, %v: then %v", was, c, l)
		}
	}
}

// wantSame wants a call of Do to turn nothing.
func wantSame(t *testing.T, l []api.Atom, c call) {
	t.Helper()
	wantDone(t, l, c, l)
}

func seven() []int64 { return []int64{1, 2, 3, 4, 5, 6, 7} }

func mayBe() [][]api.Atom {
	return [][]api.Atom{
		nil,
		{},
		{lock("l", 0)},
		{lock("l", 1)},
		{lock("l", 4)},
		{{Name: "l", Items: []int64{}}},
		{queue("q", 1)},
		{queue("q", 8)},
		{queue("q", 1, 0)},
		{queue("q", 1, math.MaxInt64)},
		{queue("q", 8, append(seven(), 8)...)},
		{queue("q", 8, seven()...)},
		{queue("q", 3, 5, 5, 5)},
		{lock("l", 2), lock("m", 2), queue("q", 2, 1), queue("r", 2, 1)},
		{lock("a", 0), lock("A", 0), lock("a ", 0), lock("aa", 0), lock("\x00", 0), lock("\xff", 0)},
	}
}

func mayNotBe() [][]api.Atom {
	return [][]api.Atom{
		{{}},
		{lock("", 0)},
		{queue("", 1)},
		{lock("l", -1)},
		{lock("l", 5)},
		{lock("l", math.MinInt)},
		{lock("l", math.MaxInt)},
		{{Name: "l", Items: []int64{0}}},
		{{Name: "l", Items: []int64{-1}}},
		{{Name: "l", Owner: 1, Items: []int64{7}}},
		{queue("q", -1)},
		{queue("q", math.MinInt)},
		{queue("q", 9)},
		{queue("q", math.MaxInt)},
		{{Name: "q", Cap: 1, Owner: 1}},
		{{Name: "q", Cap: 8, Owner: 4}},
		{{Name: "q", Cap: 8, Owner: -1}},
		{{Name: "q", Cap: 2, Owner: 1, Items: []int64{1}}},
		{queue("q", 1, 1, 2)},
		{queue("q", 7, append(seven(), 8)...)},
		{queue("q", 8, append(seven(), 8, 9)...)},
		{queue("q", 9, append(seven(), 8, 9)...)},
		{queue("q", 1, -1)},
		{queue("q", 3, 1, math.MinInt64, 2)},
		{queue("q", 3, 1, 2, -1)},
		{lock("l", 0), lock("l", 0)},
		{lock("l", 0), lock("l", 1)},
		{queue("l", 1), queue("l", 1)},
		{lock("l", 0), queue("l", 1)},
		{lock("l", 0), queue("q", 1), lock("m", 0), lock("l", 0)},
		{lock("l", 0), queue("q", 1), lock("", 0)},
		{lock("l", 0), queue("q", 1), lock("m", 5)},
		{lock("l", 5), queue("q", 1), lock("m", 0)},
		{lock("l", 0), queue("q", 9), lock("m", 0)},
	}
}

func TestCheck(t *testing.T) {
	for k, l := range mayBe() {
		was := copyOf(l)
		if e := atom.Check(l); e != api.OK {
			t.Errorf("P11.1: objects %d: %v: error %d", k, l, e)
		}
		if !same(l, was) {
			t.Errorf("R5: %v: then %v", was, l)
		}
	}
	for k, l := range mayNotBe() {
		if e := atom.Check(l); e != api.ErrArg {
			t.Errorf("P11.1: objects %d: %v: error %d", k, l, e)
		}
	}
}

func TestManyObjects(t *testing.T) {
	var l []api.Atom
	for k := range 3000 {
		l = append(l, lock("l"+strconv.Itoa(k), k%5), queue("q"+strconv.Itoa(k), 1+k%8))
	}
	if e := atom.Check(l); e != api.OK {
		t.Errorf("P11.1: error %d", e)
	}
	if e := atom.Check(append(l, lock("q7", 0))); e != api.ErrArg {
		t.Errorf("P11.1: a name that is there twice: error %d", e)
	}
}

// Objects that may not be are answered as they are, whatever is asked of them.
func TestDoOfObjectsThatMayNotBe(t *testing.T) {
	for _, l := range mayNotBe() {
		for do := -1; do <= 7; do++ {
			for _, name := range []string{"l", "q", "m", "", "z"} {
				wantSame(t, l, call{0, do, name, 5, 0, api.AtomBad})
			}
		}
	}
}

func TestDoOfOtherThreadsAndOperations(t *testing.T) {
	l := []api.Atom{lock("l", 0), queue("q", 2, 7)}
	for _, name := range []string{"l", "q", "", "z"} {
		for _, thread := range []int{-1, 4, 5, math.MinInt, math.MaxInt} {
			for do := api.DoAcquire; do <= api.DoPrint; do++ {
				wantSame(t, l, call{thread, do, name, 5, 0, api.AtomBad})
			}
		}
		for _, do := range []int{0, 6, -1, 7, math.MinInt, math.MaxInt} {
			for _, thread := range []int{0, 3} {
				wantSame(t, l, call{thread, do, name, 5, 0, api.AtomBad})
			}
		}
	}
}

// A thread's number and 1 is its owner's: a lock with Owner 4 is thread 3's, and there is none of thread 4's or of thread -1's.
func TestReleaseByThreadsThatAreNot(t *testing.T) {
	wantSame(t, []api.Atom{lock("l", 0)}, call{-1, api.DoRelease, "l", 0, 0, api.AtomBad})
	wantSame(t, []api.Atom{lock("l", 4)}, call{4, api.DoRelease, "l", 0, 0, api.AtomBad})
	wantDone(t, []api.Atom{lock("l", 4)}, call{3, api.DoRelease, "l", 0, 0, api.AtomDone}, []api.Atom{lock("l", 0)})
}

// A print is done whatever its name is, and turns nothing.
func TestPrint(t *testing.T) {
	for _, l := range mayBe() {
		for _, name := range []string{"l", "q", "z", ""} {
			for _, arg := range []int64{0, -1, 5} {
				wantSame(t, l, call{0, api.DoPrint, name, arg, 0, api.AtomDone})
				wantSame(t, l, call{3, api.DoPrint, name, arg, 0, api.AtomDone})
			}
		}
	}
}

func TestNoSuchObject(t *testing.T) {
	l := []api.Atom{lock("l", 1), queue("q", 2, 7)}
	for do := api.DoAcquire; do <= api.DoGet; do++ {
		for _, name := range []string{"", "z", "L", "l ", "ql", "lq"} {
			wantSame(t, l, call{0, do, name, 5, 0, api.AtomBad})
			wantSame(t, nil, call{0, do, name, 5, 0, api.AtomBad})
		}
	}
}

func TestOperationsOfTheOtherKind(t *testing.T) {
	for _, l := range [][]api.Atom{
		{lock("l", 0), queue("q", 2)},
		{lock("l", 1), queue("q", 2, 7)},
		{queue("q", 1, 7), lock("l", 2)},
	} {
		for thread := range 4 {
			wantSame(t, l, call{thread, api.DoAcquire, "q", 0, 0, api.AtomBad})
			wantSame(t, l, call{thread, api.DoRelease, "q", 0, 0, api.AtomBad})
			wantSame(t, l, call{thread, api.DoPut, "l", 5, 0, api.AtomBad})
			wantSame(t, l, call{thread, api.DoPut, "l", -1, 0, api.AtomBad})
			wantSame(t, l, call{thread, api.DoGet, "l", 0, 0, api.AtomBad})
		}
	}
}

// Each lock, held by each thread or by nobody, is asked for and let go of by each; the arg makes no difference.
func TestLocks(t *testing.T) {
	for owner := range 5 {
		l := []api.Atom{queue("q", 1), lock("k", 3), lock("l", owner), lock("m", 0)}
		turned := func(owner int) []api.Atom {
			return []api.Atom{queue("q", 1), lock("k", 3), lock("l", owner), lock("m", 0)}
		}
		for thread := range 4 {
			for _, arg := range []int64{0, 5, -1} {
				if owner == 0 {
					wantDone(t, l, call{thread, api.DoAcquire, "l", arg, 0, api.AtomDone}, turned(thread+1))
				} else {
					wantSame(t, l, call{thread, api.DoAcquire, "l", arg, 0, api.AtomWaits})
				}
				if owner == thread+1 {
					wantDone(t, l, call{thread, api.DoRelease, "l", arg, 0, api.AtomDone}, turned(0))
				} else {
					wantSame(t, l, call{thread, api.DoRelease, "l", arg, 0, api.AtomBad})
				}
			}
		}
	}
}

func TestQueues(t *testing.T) {
	for size := 1; size <= api.MaxCap; size++ {
		for n := 0; n <= size; n++ {
			items := append(seven(), 8)[:n]
			with := func(items ...int64) []api.Atom {
				return []api.Atom{queue("p", 8, 1), queue("q", size, items...), queue("r", 8), lock("l", 1)}
			}
			l := with(items...)
			thread := n % 4
			wantSame(t, l, call{thread, api.DoPut, "q", -1, 0, api.AtomDone})
			wantSame(t, l, call{thread, api.DoPut, "q", math.MinInt64, 0, api.AtomDone})
			for _, arg := range []int64{0, 9, math.MaxInt64} {
				if n == size {
					wantSame(t, l, call{thread, api.DoPut, "q", arg, 0, api.AtomDone})
					continue
				}
				wantDone(t, l, call{thread, api.DoPut, "q", arg, 1, api.AtomDone}, with(slices.Concat(items, []int64{arg})...))
			}
			for _, arg := range []int64{0, -1, 9} {
				if n == 0 {
					wantSame(t, l, call{thread, api.DoGet, "q", arg, -1, api.AtomDone})
					continue
				}
				wantDone(t, l, call{thread, api.DoGet, "q", arg, 1, api.AtomDone}, with(items[1:]...))
			}
		}
	}
}

func TestExamples(t *testing.T) {
	l := []api.Atom{queue("q", 1), lock("l", 1)}
	for _, c := range []call{
		{0, api.DoGet, "q", 0, -1, api.AtomDone},
		{0, api.DoPut, "q", 5, 1, api.AtomDone},
		{0, api.DoPut, "q", 6, 0, api.AtomDone},
		{0, api.DoGet, "q", 0, 5, api.AtomDone},
		{0, api.DoAcquire, "l", 0, 0, api.AtomWaits},
		{3, api.DoAcquire, "l", 0, 0, api.AtomWaits},
		{1, api.DoRelease, "l", 0, 0, api.AtomBad},
	} {
		next, answer, came := atom.Do(l, c.thread, c.do, c.name, c.arg)
		if answer != c.answer || came != c.came {
			t.Errorf("P11.2: %v: %d, %d", c, answer, came)
		}
		l = next
	}
	if !same(l, []api.Atom{queue("q", 1), lock("l", 1)}) {
		t.Errorf("P11.2: %v", l)
	}
}
