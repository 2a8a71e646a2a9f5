package lib_test

import (
	"fmt"
	"slices"
	"testing"

	"cotter/api"
)

// explorer goes through all that a few threads can do: each state once, with what led to it.
type explorer struct {
	im      api.Image
	objects []named
	seen    map[string]struct{}
	ended   int
}

// explore goes all ways; a thread's steps that ask nothing of memory, and so turn nothing for others, are done at once.
func explore(t *testing.T, objects []named, texts ...string) *explorer {
	t.Helper()
	x := &explorer{im: imageOf(t, objects, texts...), objects: objects, seen: map[string]struct{}{}}
	ways := [][]int{nil}
	for len(ways) > 0 {
		way := ways[len(ways)-1]
		ways = ways[:len(ways)-1]
		w := x.behind(t, way)
		for pick := range 2 * len(texts) {
			if !w.big(pick) {
				continue
			}
			if x.isNew(t, w) {
				ways = append(ways, append(slices.Clone(way), pick))
			}
			w = x.behind(t, way)
		}
	}
	return x
}

// behind is the machine behind a way.
func (x *explorer) behind(t *testing.T, way []int) *watch {
	w := newWatch(t, x.im)
	for _, pick := range way {
		w.big(pick)
	}
	return w
}

func (x *explorer) isNew(t *testing.T, w *watch) bool {
	key := w.key()
	if _, ok := x.seen[key]; ok {
		return false
	}
	x.seen[key] = struct{}{}
	w.wantOrder(t, x.objects)
	if !slices.ContainsFunc(threadsOf(w), w.running) {
		x.ended++
	}
	return true
}

func threadsOf(w *watch) []int {
	var l []int
	for t := range w.Threads() {
		l = append(l, t)
	}
	return l
}

// big does a pick, and of a step all those behind it that ask nothing of memory.
func (w *watch) big(pick int) bool {
	t := pick / 2
	if pick%2 == 1 {
		return w.leave(t)
	}
	if !w.running(t) {
		return false
	}
	w.step(t)
	for i, _ := w.next(t); w.running(t) && isInner(i.Op); i, _ = w.next(t) {
		w.step(t)
	}
	return true
}

func isInner(op int) bool {
	return op <= api.LE || op >= api.ADR && op <= api.JNZ || op >= api.JMPS && op <= api.JNZS
}

// key has all that what comes can hang on, and which calls were ahead of which.
func (w *watch) key() string {
	var l []any
	for t := range w.Threads() {
		c, waits := w.Thread(t)
		top, _ := w.Word(c.R[api.Stack])
		l = append(l, c, waits, top)
	}
	for k := range w.im.Data {
		n, _ := w.Word(api.DataBase + 8*int64(k))
		l = append(l, n)
	}
	for _, a := range w.acts {
		l = append(l, a.Thread, a.Do, a.Answer)
		for _, b := range w.acts {
			l = append(l, a.Back >= 0, a.Back >= 0 && a.Back < b.Call)
		}
	}
	return fmt.Sprint(l...)
}

func TestAllWaysOfLocks(t *testing.T) {
	for _, m := range locks() {
		objects := []named{{m, "l"}}
		one := []string{"call l.acq", "call l.rel"}
		two := slices.Concat(one, one)
		for k, texts := range [][]string{
			{threadText(0, two...), threadText(1, one...)},
			{threadText(0, one...), threadText(1, "call l.acq")},
		} {
			if x := explore(t, objects, texts...); x.ended == 0 {
				t.Errorf("P12.3: %s: case %d: no way ends, of %d states", m.what, k, len(x.seen))
			}
		}
	}
}

func TestAllWaysOfQueues(t *testing.T) {
	put := func(n string) []string { return []string{"movi r1 " + n, "call q.put"} }
	get := []string{"call q.get"}
	for k, texts := range [][]string{
		{threadText(0, put("5")...), threadText(1, get...)},
		{threadText(0, put("5")...), threadText(1, put("6")...)},
		{threadText(0, put("-1")...), threadText(1, put("6")...)},
		{threadText(0, slices.Concat(put("5"), get)...), threadText(1, put("6")...)},
		{threadText(0, slices.Concat(put("5"), put("7"))...), threadText(1, get...)},
		{threadText(0, slices.Concat(put("5"), get)...), threadText(1, get...)},
	} {
		for size := 1; size <= 2; size++ {
			objects := []named{{queueOf(size), "q"}}
			if x := explore(t, objects, texts...); x.ended == 0 {
				t.Errorf("P12.3: of %d: case %d: no way ends, of %d states", size, k, len(x.seen))
			}
		}
	}
}
