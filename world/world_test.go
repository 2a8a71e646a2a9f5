package world_test

import (
	"math"
	"slices"
	"testing"

	"cotter/api"
	"cotter/parse"
	"cotter/world"
)

func made(t *testing.T, l ...string) *world.World {
	t.Helper()
	return world.New(read(t, l...))
}

func read(t *testing.T, l ...string) []api.Module {
	t.Helper()
	var all []api.Module
	for _, s := range l {
		m, e := parse.Parse(s)
		if e != api.OK {
			t.Fatalf("%q: error %d", s, e)
		}
		all = append(all, m)
	}
	return all
}

func TestGiven(t *testing.T) {
	var names []string
	for _, d := range world.Given(read(t, "thread b { } extern lock l; int x by l;", "", "lock l; extern int x by l; thread a { } int f() rank 1 { }")) {
		names = append(names, d.Name)
	}
	if !slices.Equal(names, []string{"b", "x", "l", "a", "f"}) {
		t.Errorf("%v", names)
	}
	if len(world.Given(nil)) != 0 {
		t.Error("none give something")
	}
}

func TestGlobals(t *testing.T) {
	w := made(t, "extern lock l; int x by l; int a[3] by l; queue q 1; thread t { }", "lock l; extern int y by l; extern int b[2] by l;")
	for name, want := range map[string]int{"x": 1, "a": 3, "l": 0, "q": 0, "t": 0, "y": 0, "b": 0, "": 0} {
		if l := w.Global(name); len(l) != want || slices.Max(append(l, 0)) != 0 {
			t.Errorf("%s: %v", name, l)
		}
		for _, at := range []int64{math.MinInt64, -1, int64(want), math.MaxInt64} {
			if n, ok := w.Load(name, at); n != 0 || ok || w.Store(name, at, 5) {
				t.Errorf("%s has an element %d", name, at)
			}
		}
		for at := range int64(want) {
			if n, ok := w.Load(name, at); n != 0 || !ok || !w.Store(name, at, 7+at) {
				t.Errorf("%s has no element %d", name, at)
			}
			if n, ok := w.Load(name, at); n != 7+at || !ok {
				t.Errorf("%s: element %d is %d", name, at, n)
			}
		}
	}
	first := w.Global("a")
	first[0] = -1
	if !slices.Equal(w.Global("a"), []int64{7, 8, 9}) || !slices.Equal(w.Global("x"), []int64{7}) {
		t.Errorf("%v, %v", w.Global("a"), w.Global("x"))
	}
}

func TestAtomic(t *testing.T) {
	w := made(t, "lock l; ticket k; queue q 2; extern queue r 1;")
	for i, c := range []struct {
		thread, do int
		name       string
		arg        int64
		answer     int64
		came       int
	}{
		{0, api.DoAcquire, "l", 0, 0, api.AtomDone}, {1, api.DoAcquire, "l", 0, 0, api.AtomWaits}, {0, api.DoAcquire, "l", 0, 0, api.AtomWaits}, {1, api.DoRelease, "l", 0, 0, api.AtomBad},
		{1, api.DoAcquire, "k", 0, 0, api.AtomDone}, {0, api.DoRelease, "l", 0, 0, api.AtomDone}, {3, api.DoAcquire, "l", 0, 0, api.AtomDone},
		{0, api.DoGet, "q", 0, -1, api.AtomDone}, {0, api.DoPut, "q", -1, 0, api.AtomDone}, {0, api.DoPut, "q", 5, 1, api.AtomDone}, {1, api.DoPut, "q", 6, 1, api.AtomDone}, {2, api.DoPut, "q", 7, 0, api.AtomDone}, {3, api.DoGet, "q", 0, 5, api.AtomDone}, {3, api.DoGet, "q", 0, 6, api.AtomDone},
	} {
		if answer, came := w.Atomic(c.thread, c.do, c.name, c.arg); answer != c.answer || came != c.came {
			t.Errorf("%d: %d, %d", i, answer, came)
		}
	}
}

func TestEvents(t *testing.T) {
	w := made(t)
	if len(w.Events()) != 0 {
		t.Errorf("%v", w.Events())
	}
	want := []api.Event{{Thread: 1, Kind: api.EvPrint, N: 5}, {Kind: api.EvEnd}}
	for _, e := range want {
		w.See(e.Thread, e.Kind, e.N)
	}
	w.Events()[0].N = 9
	if !slices.Equal(w.Events(), want) {
		t.Errorf("%v", w.Events())
	}
}

func TestTurn(t *testing.T) {
	for _, c := range []struct{ pick, threads, want int }{
		{0, 1, 0}, {5, 1, 0}, {-5, 1, 0}, {0, 3, 0}, {1, 3, 1}, {2, 3, 2}, {3, 3, 0}, {-1, 3, 0}, {-2, 3, 1}, {-3, 3, 2}, {-4, 3, 0}, {math.MaxInt, 4, 3}, {math.MinInt, 4, 3}, {math.MinInt, 3, math.MaxInt % 3},
	} {
		if got := world.Turn(c.pick, c.threads); got != c.want {
			t.Errorf("%d of %d: %d", c.pick, c.threads, got)
		}
	}
}
