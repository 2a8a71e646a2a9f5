package hist_test

import (
	"math"
	"slices"
	"testing"

	"cotter/api"
	"cotter/hist"
)

func TestAfter(t *testing.T) {
	objects := start()
	l := []api.Act{acquire(0, "l", 0, 1), put(1, "q", 5, 0, 3, 1), put(2, "q", 6, 2, 4, 1), release(0, "l", 2, -1), get(3, "r", 6, 7, 7), get(0+1, "q", 8, -1, 0)}
	for _, c := range []struct {
		order []int
		want  []api.Atom
	}{
		{[]int{0, 1, 2, 4}, []api.Atom{lock("l", 1), lock("m", 3), queue("q", 2, 5, 6), queue("r", 2, 8)}},
		{[]int{0, 2, 1, 4}, []api.Atom{lock("l", 1), lock("m", 3), queue("q", 2, 6, 5), queue("r", 2, 8)}},
		{[]int{1, 0, 2, 4}, []api.Atom{lock("l", 1), lock("m", 3), queue("q", 2, 5, 6), queue("r", 2, 8)}},
		{[]int{1, 0, 2, 3, 4}, []api.Atom{lock("l", 0), lock("m", 3), queue("q", 2, 5, 6), queue("r", 2, 8)}},
		{[]int{0, 1, 2, 4, 3}, []api.Atom{lock("l", 0), lock("m", 3), queue("q", 2, 5, 6), queue("r", 2, 8)}},
		{[]int{0, 1, 2, 4, 5, 3}, []api.Atom{lock("l", 0), lock("m", 3), queue("q", 2, 6), queue("r", 2, 8)}},
		{[]int{0, 1, 2, 4, 5}, []api.Atom{lock("l", 1), lock("m", 3), queue("q", 2, 6), queue("r", 2, 8)}},
	} {
		wantAfter(t, objects, l, c.order, c.want)
	}
	for _, order := range [][]int{
		nil,
		{},
		{3},
		// One too few.
		{1, 2, 4},
		{0, 2, 4},
		{0, 1, 4},
		{0, 1, 2},
		{0, 1, 2, 5},
		// One twice.
		{0, 1, 2, 4, 0},
		{0, 1, 2, 4, 4},
		{0, 0, 1, 2, 4},
		{0, 1, 2, 3, 3, 4},
		{0, 1, 2, 4, 5, 5},
		// Out of range.
		{0, 1, 2, 4, 6},
		{0, 1, 2, 4, -1},
		{-1, 0, 1, 2, 4},
		{0, 1, 2, 4, math.MaxInt},
		{math.MinInt, 0, 1, 2, 4},
		{0, 1, 2, 4, 64},
		{0, 1, 2, 68},
		// Behind one that it is ahead of.
		{2, 0, 1, 4},
		{1, 2, 0, 4},
		{0, 1, 4, 2},
		{4, 0, 1, 2},
		{0, 1, 2, 5, 4},
		{1, 3, 0, 2, 4},
		{0, 5, 1, 2, 4},
	} {
		wantNoAfter(t, objects, l, order)
	}
}

// An order for which something waits, may not be, or has another answer, is none.
func TestAfterOfOtherAnswers(t *testing.T) {
	for _, c := range []struct {
		l     []api.Act
		order []int
	}{
		{[]api.Act{acquire(0, "l", 0, 9), acquire(1, "l", 0, 9), release(1, "l", 10, 11)}, []int{0, 1, 2}},
		{[]api.Act{acquire(0, "l", 0, 9), acquire(1, "l", 0, -1)}, []int{0, 1}},
		{[]api.Act{release(1, "l", 0, -1)}, []int{0}},
		{[]api.Act{acquire(1, "none", 0, -1)}, []int{0}},
		{[]api.Act{put(1, "l", 1, 0, -1, 0)}, []int{0}},
		{[]api.Act{{Do: 6, Name: "l", Back: -1}}, []int{0}},
		{[]api.Act{{Do: 0, Name: "l", Back: -1}}, []int{0}},
		{[]api.Act{put(1, "q", 1, 0, 1, 0)}, []int{0}},
		{[]api.Act{get(1, "r", 0, 1, 8)}, []int{0}},
		{[]api.Act{put(0, "q", 1, 0, 9, 1), put(1, "q", 2, 0, 9, 1), get(2, "q", 10, 11, 2)}, []int{0, 1, 2}},
		{[]api.Act{put(0, "q", 1, 0, 9, 1), put(1, "q", 2, 0, 9, 1), put(2, "q", 3, 0, 9, 0)}, []int{0, 2, 1}},
	} {
		wantNoAfter(t, start(), c.l, c.order)
	}
	// Of what has not come back, of locks and of prints any answer is right.
	l := []api.Act{put(0, "q", 1, 0, -1, 9), {Thread: 1, Do: api.DoAcquire, Name: "l", Back: 1, Answer: 9}, printed(2, 0, 1, 9), get(3, "r", 0, -1, 9)}
	wantAfter(t, start(), l, []int{0, 1, 2, 3}, []api.Atom{lock("l", 2), lock("m", 3), queue("q", 2, 1), queue("r", 2, 8)})
	wantAfter(t, start(), l, []int{2, 1}, []api.Atom{lock("l", 2), lock("m", 3), queue("q", 2), queue("r", 2, 7, 8)})
}

func TestAfterOfNoActs(t *testing.T) {
	for _, objects := range [][]api.Atom{nil, {}, start()} {
		wantAfter(t, objects, nil, nil, objects)
		wantAfter(t, objects, []api.Act{}, []int{}, objects)
		wantNoAfter(t, objects, nil, []int{0})
		wantNoAfter(t, objects, nil, []int{-1})
	}
	long := make([]int, 1<<20)
	wantNoAfter(t, start(), nil, long)
	wantNoAfter(t, start(), []api.Act{printed(0, 0, 1, 0)}, long)
}

// What is answered shares no items, nor room behind them, with what was handed in, nor with one another.
func TestAfterIsNew(t *testing.T) {
	room := make([]int64, 2, 8)
	room[0], room[1] = 7, 8
	objects := []api.Atom{lock("l", 0), {Name: "q", Cap: 4, Items: room[:1]}, {Name: "r", Cap: 4, Items: room[1:2]}, queue("s", 2)}
	was, all := copyOf(objects), slices.Clone(room[:cap(room)])
	for _, c := range []struct {
		l     []api.Act
		order []int
	}{
		{nil, nil},
		{[]api.Act{printed(0, 0, 1, 0)}, []int{0}},
		{[]api.Act{put(0, "q", 1, 0, 1, 1), put(0, "s", 1, 2, 3, 1), get(0, "r", 4, 5, 8)}, []int{0, 1, 2}},
	} {
		after, e := hist.After(objects, c.l, c.order)
		if e != api.OK {
			t.Fatalf("P13.3: %+v: error %d", c.l, e)
		}
		want := copyOf(after)
		for i := range after {
			items := after[i].Items
			for k := range items[:cap(items)] {
				items[:cap(items)][k] = -77
			}
			want[i].Items = items
			if !same(after, want) {
				t.Errorf("R5: %+v: %v; want %v", c.l, after, want)
			}
		}
		for i := range after[:cap(after)] {
			after[:cap(after)][i] = api.Atom{Name: "other"}
		}
		if !same(objects, was) || !slices.Equal(room[:cap(room)], all) {
			t.Fatalf("R5: %+v: %v, %v; want %v", c.l, objects, room[:cap(room)], was)
		}
	}
}
