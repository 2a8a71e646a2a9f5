package hist_test

import (
	"math"
	"slices"
	"testing"

	"cotter/api"
	"cotter/hist"
)

// The calls have the types that the chapter lists.
var (
	_ func([]api.Act) api.Errno                                  = hist.Check
	_ func([]api.Atom, []api.Act) ([]int, bool)                  = hist.Order
	_ func([]api.Atom, []api.Act, []int) ([]api.Atom, api.Errno) = hist.After
)

func lock(name string, owner int) api.Atom {
	return api.Atom{Name: name, Owner: owner}
}

func queue(name string, size int, items ...int64) api.Atom {
	return api.Atom{Name: name, Cap: size, Items: items}
}

func acquire(thread int, name string, call int, back int) api.Act {
	return api.Act{Thread: thread, Do: api.DoAcquire, Name: name, Call: call, Back: back}
}

func release(thread int, name string, call int, back int) api.Act {
	return api.Act{Thread: thread, Do: api.DoRelease, Name: name, Call: call, Back: back}
}

func put(thread int, name string, arg int64, call int, back int, answer int64) api.Act {
	return api.Act{Thread: thread, Do: api.DoPut, Name: name, Arg: arg, Call: call, Back: back, Answer: answer}
}

func get(thread int, name string, call int, back int, answer int64) api.Act {
	return api.Act{Thread: thread, Do: api.DoGet, Name: name, Call: call, Back: back, Answer: answer}
}

func printed(thread int, call int, back int, answer int64) api.Act {
	return api.Act{Thread: thread, Do: api.DoPrint, Call: call, Back: back, Answer: answer}
}

func sameAtom(a api.Atom, b api.Atom) bool {
	return a.Name == b.Name && a.Cap == b.Cap && a.Owner == b.Owner && slices.Equal(a.Items, b.Items)
}

func same(a []api.Atom, b []api.Atom) bool {
	return slices.EqualFunc(a, b, sameAtom)
}

func copyOf(l []api.Atom) []api.Atom {
	var next []api.Atom
	for _, a := range l {
		a.Items = append([]int64(nil), a.Items...)
		next = append(next, a)
	}
	return next
}

// wantOrder wants Order to answer an order where there is one to be, twice the same, and what was handed in to be as it was.
func wantOrder(t *testing.T, objects []api.Atom, l []api.Act, want bool) []int {
	t.Helper()
	were, was := copyOf(objects), slices.Clone(l)
	order, ok := hist.Order(objects, l)
	if ok != want {
		t.Errorf("P13.2: %v, %+v: order %v, %v; want %v", objects, l, order, ok, want)
	}
	if !ok && len(order) > 0 {
		t.Errorf("R3: %v, %+v: order %v beside false", objects, l, order)
	}
	if ok && !isOrder(objects, l, order) {
		t.Errorf("P13.2: %v, %+v: %v is no order", objects, l, order)
	}
	again, ok := hist.Order(objects, l)
	if ok != want || !slices.Equal(order, again) {
		t.Errorf("R6: %v, %+v: order %v, then %v", objects, l, order, again)
	}
	if !same(objects, were) || !slices.Equal(l, was) {
		t.Fatalf("R5: %v, %+v: then %v, %+v", were, was, objects, l)
	}
	return order
}

// wantAfter wants After to answer those objects, and what was handed in to be as it was.
func wantAfter(t *testing.T, objects []api.Atom, l []api.Act, order []int, want []api.Atom) {
	t.Helper()
	were, was, said := copyOf(objects), slices.Clone(l), slices.Clone(order)
	for range 2 {
		after, e := hist.After(objects, l, order)
		if e != api.OK || !same(after, want) {
			t.Errorf("P13.3: %v, %+v, %v: %v, error %d; want %v", objects, l, order, after, e, want)
		}
		if !same(objects, were) || !slices.Equal(l, was) || !slices.Equal(order, said) {
			t.Fatalf("R5: %v, %+v, %v: then %v, %+v, %v", were, was, said, objects, l, order)
		}
	}
}

func wantNoAfter(t *testing.T, objects []api.Atom, l []api.Act, order []int) {
	t.Helper()
	after, e := hist.After(objects, l, order)
	if e != api.ErrArg {
		t.Errorf("P13.3: %v, %+v, %v: error %d", objects, l, order, e)
	}
	if len(after) > 0 {
		t.Errorf("R3: %v, %+v, %v: %v beside an error", objects, l, order, after)
	}
}

// sequence is so many acts of a thread, one behind the other.
func sequence(thread int, n int) []api.Act {
	var l []api.Act
	for k := range n {
		l = append(l, printed(thread, 2*k, 2*k+1, 0))
	}
	return l
}

func mayBe() [][]api.Act {
	return [][]api.Act{
		nil,
		{},
		{{Back: 1}},
		{{Back: -1}},
		{{Thread: 3, Back: 1}},
		{{Call: 7, Back: 8}},
		{{Call: math.MaxInt, Back: -1}},
		{{Call: math.MaxInt - 1, Back: math.MaxInt}},
		{{Back: math.MaxInt}},
		// What an act does is its objects' affair.
		{{Do: -1, Back: 1}, {Thread: 1, Do: 99, Name: "none", Arg: math.MinInt64, Answer: 77, Back: 1}},
		// Acts of one thread, in any order in the list.
		{{Call: 0, Back: 1}, {Call: 2, Back: 3}},
		{{Call: 2, Back: 3}, {Call: 0, Back: 1}},
		{{Call: 3, Back: -1}, {Call: 0, Back: 1}},
		{{Call: 4, Back: -1}, {Call: 0, Back: 1}, {Call: 2, Back: 3}},
		// Acts of several threads may overlap, and begin and end at the same time.
		{{Thread: 0, Back: 5}, {Thread: 1, Back: 5}, {Thread: 2, Call: 5, Back: 6}, {Thread: 3, Back: -1}},
		{{Thread: 0, Back: -1}, {Thread: 1, Back: -1}, {Thread: 2, Back: -1}, {Thread: 3, Back: -1}},
		sequence(0, 60),
		slices.Concat(sequence(0, 15), sequence(1, 15), sequence(2, 15), sequence(3, 15)),
	}
}

func mayNotBe() [][]api.Act {
	return [][]api.Act{
		{{}},
		{{Thread: -1, Back: 1}},
		{{Thread: 4, Back: 1}},
		{{Thread: math.MinInt, Back: 1}},
		{{Thread: math.MaxInt, Back: 1}},
		{{Call: -1, Back: 1}},
		{{Call: -1, Back: -1}},
		{{Call: -3, Back: -1}},
		{{Call: math.MinInt, Back: 1}},
		{{Back: -2}},
		{{Back: math.MinInt}},
		{{Back: 0}},
		{{Call: 7, Back: 7}},
		{{Call: 7, Back: 6}},
		{{Call: 7, Back: 0}},
		{{Call: 7, Back: -2}},
		// The earlier one has not come back.
		{{Back: -1}, {Call: 2, Back: 3}},
		{{Call: 2, Back: 3}, {Back: -1}},
		{{Back: -1}, {Call: 2, Back: -1}},
		{{Back: -1}, {Back: -1}},
		// It comes back at the other one's Call, or later.
		{{Back: 2}, {Call: 2, Back: 3}},
		{{Call: 2, Back: 3}, {Back: 2}},
		{{Back: 2}, {Call: 1, Back: 3}},
		{{Back: 9}, {Call: 2, Back: 3}},
		{{Back: 2}, {Call: 2, Back: -1}},
		{{Call: 2, Back: -1}, {Back: 3}},
		{{Back: 1}, {Back: 1}},
		{{Back: 1}, {Back: 2}},
		{{Thread: 3, Back: 1}, {Thread: 0, Back: 1}, {Thread: 3, Call: 1, Back: 2}},
		{{Thread: 3, Call: 4, Back: 5}, {Thread: 0, Back: 1}, {Thread: 3, Back: -1}},
		// One of many.
		append(sequence(1, 59), api.Act{Thread: 4, Back: 1}),
		append(sequence(1, 59), api.Act{Thread: 1, Call: 117, Back: 118}),
		append([]api.Act{{Thread: 2, Call: 5, Back: 5}}, sequence(1, 59)...),
		sequence(0, 61),
		slices.Concat(sequence(0, 16), sequence(1, 15), sequence(2, 15), sequence(3, 15)),
		make([]api.Act, 61),
		make([]api.Act, 5000),
	}
}

func TestCheck(t *testing.T) {
	for k, l := range mayBe() {
		was := slices.Clone(l)
		if e := hist.Check(l); e != api.OK {
			t.Errorf("P13.1: history %d: %+v: error %d", k, l, e)
		}
		if !slices.Equal(l, was) {
			t.Errorf("R5: %+v: then %+v", was, l)
		}
	}
	for k, l := range mayNotBe() {
		if e := hist.Check(l); e != api.ErrArg {
			t.Errorf("P13.1: history %d: %+v: error %d", k, l, e)
		}
	}
}

// A Back one below the other act's Call is the last one that may be.
func TestCheckOfTwoActsOfAThread(t *testing.T) {
	for back := -2; back <= 12; back++ {
		want := api.ErrArg
		if back > 3 && back < 8 {
			want = api.OK
		}
		early, late := api.Act{Thread: 2, Call: 3, Back: back}, api.Act{Thread: 2, Call: 8, Back: 9}
		for _, l := range [][]api.Act{{early, late}, {late, early}} {
			if e := hist.Check(l); e != want {
				t.Errorf("P13.1: %+v: error %d; want %d", l, e, want)
			}
		}
		late.Thread = 1
		if e := hist.Check([]api.Act{early, late}); e != api.OK && (back == -1 || back > 3) {
			t.Errorf("P13.1: two threads, back %d: error %d", back, e)
		}
	}
}

func wrongObjects() [][]api.Atom {
	return [][]api.Atom{
		{{}},
		{lock("", 0)},
		{lock("l", 5)},
		{lock("l", -1)},
		{lock("l", 0), lock("l", 0)},
		{queue("q", 9)},
		{queue("q", 1, 1, 2)},
		{queue("q", 1, -1)},
		{{Name: "l", Items: []int64{1}}},
		{lock("m", 0), {Name: "q", Cap: 1, Owner: 1}},
	}
}

func TestWhatMayNotBe(t *testing.T) {
	for _, objects := range wrongObjects() {
		wantOrder(t, objects, nil, false)
		wantOrder(t, objects, []api.Act{printed(0, 0, 1, 0)}, false)
		wantOrder(t, objects, []api.Act{acquire(0, "m", 0, 1)}, false)
		wantNoAfter(t, objects, nil, nil)
		wantNoAfter(t, objects, []api.Act{printed(0, 0, 1, 0)}, []int{0})
		wantNoAfter(t, objects, []api.Act{acquire(0, "m", 0, -1)}, nil)
	}
	for _, l := range mayNotBe() {
		all := make([]int, len(l))
		for k := range l {
			l[k].Do = api.DoPrint
			all[k] = k
		}
		wantOrder(t, nil, l, false)
		wantNoAfter(t, nil, l, all)
		wantNoAfter(t, nil, l, nil)
	}
}

// Histories of prints alone always have an order, whatever else stands in them.
func TestOrderOfPrints(t *testing.T) {
	for _, l := range mayBe() {
		for k := range l {
			l[k].Do, l[k].Name = api.DoPrint, []string{"", "l", "q", "none"}[k%4]
			l[k].Arg, l[k].Answer = int64(k)-3, int64(-k)
		}
		for _, objects := range [][]api.Atom{nil, {}, {lock("l", 1), queue("q", 1, 5)}} {
			order := wantOrder(t, objects, l, true)
			wantAfter(t, objects, l, order, objects)
		}
	}
}

func TestExample(t *testing.T) {
	q := []api.Atom{queue("q", 1)}
	l := []api.Act{put(0, "q", 5, 0, 3, 1), get(1, "q", 1, 2, 5)}
	if order := wantOrder(t, q, l, true); !slices.Equal(order, []int{0, 1}) {
		t.Errorf("P13.2: %v; want 0 1", order)
	}
	wantAfter(t, q, l, []int{0, 1}, q)
	wantNoAfter(t, q, l, []int{1, 0})
	l[1].Answer = -1
	if order := wantOrder(t, q, l, true); !slices.Equal(order, []int{1, 0}) {
		t.Errorf("P13.2: %v; want 1 0", order)
	}
	wantAfter(t, q, l, []int{1, 0}, []api.Atom{queue("q", 1, 5)})
	wantNoAfter(t, q, l, []int{0, 1})
	l[1].Answer = 6
	wantOrder(t, q, l, false)
	wantNoAfter(t, q, l, []int{0, 1})
	wantNoAfter(t, q, l, []int{1, 0})
}

func start() []api.Atom {
	return []api.Atom{lock("l", 0), lock("m", 3), queue("q", 2), queue("r", 2, 7, 8)}
}

// have is of histories that have an order, from start on.
func have() [][]api.Act {
	return [][]api.Act{
		nil,
		// One behind the other.
		{acquire(0, "l", 0, 1), release(0, "l", 2, 3), acquire(1, "l", 4, 5)},
		{acquire(1, "l", 4, 5), release(0, "l", 2, 3), acquire(0, "l", 0, 1)},
		{put(0, "q", 1, 0, 1, 1), put(0, "q", 2, 2, 3, 1), put(0, "q", 3, 4, 5, 0), get(0, "q", 6, 7, 1), put(0, "q", 0, 8, 9, 1), get(0, "q", 10, 11, 2), get(0, "q", 12, 13, 0), get(0, "q", 14, 15, -1)},
		{get(3, "r", 0, 1, 7), get(3, "r", 2, 3, 8), get(3, "r", 4, 5, -1)},
		{put(3, "r", 9, 0, 1, 0), release(2, "m", 0, 1), acquire(0, "m", 2, 3)},
		// What is put is 0 or more.
		{put(0, "q", -1, 0, 1, 0), put(0, "q", math.MinInt64, 2, 3, 0), put(0, "q", 0, 4, 5, 1), put(0, "q", math.MaxInt64, 6, 7, 1)},
		// They overlap.
		{acquire(0, "l", 0, 9), acquire(1, "l", 1, 5), release(1, "l", 6, 9)},
		{acquire(0, "l", 3, 9), acquire(1, "l", 0, 1), release(1, "l", 2, 3)},
		{put(0, "q", 1, 0, 9, 1), put(1, "q", 2, 0, 9, 1), put(2, "q", 3, 0, 9, 0)},
		{put(0, "q", 1, 0, 9, 0), put(1, "q", 2, 0, 9, 1), put(2, "q", 3, 0, 9, 1)},
		{put(0, "q", 1, 0, 9, 1), put(1, "q", 2, 0, 9, 1), get(2, "q", 10, 11, 2), get(2, "q", 12, 13, 1)},
		{get(0, "r", 0, 9, 8), get(1, "r", 0, 9, -1), get(2, "r", 0, 9, 7)},
		// At the same time is no earlier.
		{put(0, "q", 1, 0, 5, 1), get(1, "q", 5, 6, -1)},
		{acquire(0, "l", 5, 6), acquire(1, "l", 0, 1), release(1, "l", 6, 7)},
		// What has not come back must have been done.
		{acquire(0, "l", 0, 1), release(0, "l", 2, -1), acquire(1, "l", 3, 4)},
		{acquire(1, "l", 3, 4), release(0, "l", 2, -1), acquire(0, "l", 0, 1)},
		{put(0, "q", 5, 0, -1, 0), get(1, "q", 1, 2, 5)},
		{get(1, "q", 1, 2, 5), put(0, "q", 5, 0, -1, 0)},
		{get(0, "r", 0, -1, 0), put(1, "r", 9, 1, 2, 1)},
		{put(0, "q", 5, 0, -1, 0), put(1, "q", 6, 0, -1, 0), get(2, "q", 1, 2, 6), get(2, "q", 3, 4, 5)},
		{put(0, "q", 5, 0, -1, 0), get(1, "q", 0, -1, 0), get(2, "q", 1, 2, 5), get(2, "q", 3, 4, -1)},
		// It took no room where it was tried first: the place is another one, though the same acts are done, and what lacks is 0.
		{put(0, "r", 0, 0, -1, 0), get(1, "r", 1, 2, 7), get(2, "r", 3, 4, 8), get(2, "r", 5, 6, 0)},
		// It can't have been done, or need not.
		{acquire(0, "l", 0, 1), acquire(1, "l", 2, -1)},
		{acquire(0, "m", 0, -1), release(1, "m", 0, -1)},
		{put(0, "q", 5, 0, -1, 1), get(1, "q", 1, 2, -1)},
		{put(0, "q", 5, 0, -1, 7), get(1, "q", 1, -1, 7)},
		{acquire(0, "none", 0, -1), release(1, "q", 0, -1), put(2, "l", 1, 0, -1, 0), get(3, "", 0, -1, 0)},
		{{Do: 0, Name: "l", Back: -1}, {Thread: 1, Do: 6, Name: "q", Back: -1}, {Thread: 2, Do: -1, Back: -1}, acquire(3, "l", 2, 3)},
		// Any answer of locks and prints is right.
		{{Do: api.DoAcquire, Name: "l", Back: 1, Answer: 5}, {Do: api.DoRelease, Name: "l", Call: 2, Back: 3, Answer: -5}, printed(0, 4, 5, math.MinInt64), {Thread: 1, Do: api.DoPrint, Name: "l", Arg: -1, Back: 9, Answer: 4}},
		// Any of what has not come back.
		{put(0, "q", 5, 0, -1, 99), get(1, "q", 1, 2, 5)},
		// Several objects.
		{put(0, "q", 1, 0, 3, 1), put(1, "r", 1, 1, 2, 0), get(1, "q", 3, 9, 1), get(0, "r", 4, 8, 7)},
		{get(0, "q", 0, 9, 4), put(1, "q", 4, 0, 5, 1), get(1, "r", 6, 9, 8), get(2, "r", 7, 8, 7)},
	}
}

// haveNot is of histories that have none.
func haveNot() [][]api.Act {
	return [][]api.Act{
		// One behind the other.
		{acquire(0, "l", 0, 1), acquire(1, "l", 2, 3)},
		{acquire(0, "l", 0, 1), acquire(0, "l", 2, 3)},
		{acquire(0, "l", 0, 1), acquire(1, "l", 2, 3), release(0, "l", 4, 5)},
		{acquire(0, "l", 0, 1), release(1, "l", 2, 3)},
		{release(0, "l", 0, 1)},
		{acquire(2, "m", 0, 1)},
		{release(3, "m", 0, 1)},
		// They overlap.
		{acquire(0, "l", 0, 9), acquire(1, "l", 0, 9)},
		{acquire(0, "l", 0, 3), acquire(1, "l", 1, 2), release(1, "l", 4, 9)},
		{put(0, "q", 1, 0, 9, 1), put(1, "q", 2, 0, 9, 1), put(2, "q", 3, 0, 9, 1)},
		{put(0, "q", 1, 0, 9, 0), put(1, "q", 2, 0, 9, 1)},
		{put(0, "q", 1, 0, 9, 1), put(1, "q", 2, 0, 9, 1), get(2, "q", 10, 11, 2), get(2, "q", 12, 13, 2)},
		{put(0, "q", 1, 0, 9, 1), put(1, "q", 2, 10, 11, 1), get(2, "q", 12, 13, 2)},
		{put(0, "q", 1, 0, 4, 1), get(1, "q", 5, 6, -1)},
		{acquire(0, "l", 5, 6), acquire(1, "l", 0, 1), release(1, "l", 7, 8)},
		// Wrong answers.
		{put(0, "q", 5, 0, 1, 0)},
		{put(0, "q", 5, 0, 1, 2)},
		{put(0, "q", 5, 0, 1, -1)},
		{put(0, "r", 5, 0, 1, 1)},
		{put(0, "q", -5, 0, 1, 1)},
		{get(0, "q", 0, 1, 0)},
		{get(0, "q", 0, 1, 5)},
		{get(0, "r", 0, 1, 8)},
		{get(0, "r", 0, 1, -1)},
		{get(0, "r", 0, 1, 7), get(0, "r", 2, 3, 7)},
		// What has not come back can't have helped.
		{get(1, "q", 1, 2, 5), put(0, "q", 5, 3, -1, 1)},
		{put(0, "q", 5, 0, -1, 1), get(1, "q", 1, 2, 5), get(2, "q", 1, 2, 5)},
		{put(0, "q", 5, 0, -1, 1), get(1, "q", 1, 2, 6)},
		{acquire(0, "l", 0, 1), release(0, "l", 5, -1), acquire(1, "l", 3, 4)},
		{acquire(0, "l", 0, 1), release(1, "l", 0, -1), acquire(2, "l", 3, 4)},
		// What may not be came back.
		{acquire(0, "none", 0, 1)},
		{release(0, "", 0, 1)},
		{put(0, "none", 1, 0, 1, 0)},
		{get(0, "none", 0, 1, -1)},
		{acquire(0, "q", 0, 1)},
		{release(0, "q", 0, 1)},
		{put(0, "l", 1, 0, 1, 0)},
		{get(0, "l", 0, 1, -1)},
		{{Do: 0, Name: "l", Back: 1}},
		{{Do: 6, Name: "q", Back: 1}},
		{{Do: -1, Back: 1}},
		// One of many objects' is enough.
		{acquire(0, "l", 0, 1), put(1, "q", 1, 0, 1, 1), get(2, "r", 0, 1, 8), printed(3, 0, 1, 0)},
		{printed(0, 0, 1, 0), acquire(1, "none", 0, 1)},
	}
}

func TestOrder(t *testing.T) {
	for _, l := range have() {
		order := wantOrder(t, start(), l, true)
		wantAfter(t, start(), l, order, behind(start(), l, order))
		for _, o := range [][]api.Atom{nil, {lock("other", 0)}} {
			wantOrder(t, o, l, len(l) == 0 || !slices.ContainsFunc(l, needsObject))
		}
	}
	for _, l := range haveNot() {
		wantOrder(t, start(), l, false)
	}
}

func needsObject(a api.Act) bool {
	return a.Back >= 0 && a.Do != api.DoPrint
}

// The order is new memory.
func TestOrderIsNew(t *testing.T) {
	for _, l := range have() {
		order := wantOrder(t, start(), l, true)
		for i := range order {
			order[i] = -1
		}
		wantOrder(t, start(), l, true)
	}
}
