package whole_test

import (
	"math/rand"
	"slices"
	"testing"

	"cotter/api"
	"cotter/hist"
	"cotter/whole"
)

// races are small sources whose threads are in each other's way.
var races = [][]string{
	{"lock l; int x by l; thread t { with l { x = x + 1; print x; } with l { x = x * 2; print x; } } thread u { with l { x = x + 1; print x; } } thread w { with l { print x; x = 0 - x; } } thread z { with l { x = x + 5; } with l { print x; } }"},
	{"ticket l; int x by l; thread t { with l { x = x + 1; print x; } with l { x = x * 2; print x; } } thread u { with l { x = x + 1; print x; } }", "extern lock l; extern int x by l; thread w { with l { print x; x = 0 - x; } } thread z { with l { x = x + 5; } with l { print x; } }"},
	{"queue q 1; thread t { var v = 0; v = put(q, 1); print v; v = put(q, 2); print v; } thread u { var v = 0; v = get(q); print v; v = get(q); print v; } thread w { var v = 0; v = put(q, 0 - 1); print v; v = put(q, 3); print v; } thread z { var v = 0; v = get(q); print v; put(q, v); }"},
	{"queue q 2; thread t { put(q, 1); put(q, 2); put(q, 3); } thread u { put(q, 4); put(q, 5); }", "extern queue q 2; thread w { var v = 0; v = get(q); print v; v = get(q); print v; v = get(q); print v; } thread z { var v = 0; v = get(q); print v; v = get(q); print v; }"},
	{"lock l; int x by l; queue q 1; thread t { with l { x = 5; } put(q, 1); with l { x = 6; } } thread u { var v = 0; v = get(q); with l { print v * 10 + x; } }"},
	{"lock l; ticket k; int x by l; int y by k; queue q 1; thread t { with l { x = 1; with k { y = x + y; print y; } put(q, x); } } thread u { with k { y = y + 10; } with l { with k { x = y; } print x; } } thread w { var v = 0; v = get(q); print v; with k { print y; print 1 / (y - 11); } }"},
	{"lock l; int a[2] by l; int f(i) with l rank 0 { a[i] = a[i] + 1; return a[i]; } thread t { var v = 0; with l { v = f(0); print v; v = f(1); print v; } } thread u { var v = 0; with l { v = f(1); v = f(v); print v; v = f(v); } print v; }"},
	{"queue q 1; queue r 1; thread t { var v = 0; put(q, 1); v = get(r); print v; v = get(q); print v; } thread u { var v = 0; put(r, 2); v = get(q); print v; v = get(r); print v; }"},
	{"lock l; lock k; int x by l; thread t { with l { x = x + 1; with k { print x; } } } thread u { with k { with l { x = x + 1; print x; } } } thread w { with k { print 9; } }"},
}

// Where threads race, whatever the picks, few acts are shown: there is a witness of each run, and an order of its acts.
func TestRaces(t *testing.T) {
	for i, l := range races {
		shown := map[string]int{}
		for seed := range int64(150) {
			r := rand.New(rand.NewSource(seed))
			w := newWitnessed(t, l)
			picks := manyPicks(r, w.Threads(), 900)
			for _, p := range picks {
				if wrong := w.pick(p); wrong != "" {
					t.Fatalf("race %d, seed %d: %s", i, seed, wrong)
				}
			}
			if _, ok := hist.Order(atoms(reads(t, l)), w.acts); !ok {
				t.Fatalf("P2: race %d, seed %d: no order of %+v", i, seed, w.acts)
			}
			must(t, l, picks)
			text := ""
			for _, s := range named(t, l, w.Events()) {
				text += s + ", "
			}
			shown[text]++
		}
		if len(shown) < 6 {
			t.Errorf("race %d shows but %d things: %v", i, len(shown), shown)
		}
	}
}

// A run is cut short at each pick: there is a witness of what was shown till then.
func TestCutShort(t *testing.T) {
	for i, l := range races {
		r := rand.New(rand.NewSource(int64(i)))
		var picks []int
		for range 250 {
			picks = append(picks, r.Intn(8))
		}
		for n := range picks {
			must(t, l, picks[:n])
		}
	}
}

// A thread comes by the place behind a call without the call, too: that is no coming back.
func TestPlaceBehindCall(t *testing.T) {
	for _, call := range []string{"get(q);", "put(q, 5);", "put(q, 0 - 1);", "with l { }"} {
		l := []string{"queue q 1; lock l; thread t { var i = 0; while (i < 4) { if (i == 0) { " + call + " } i = i + 1; print i; } } thread u { var v = 0; while (v < 1) { v = get(q); } print v; }"}
		must(t, l, alone(0, 500))
		for n := range 12 {
			must(t, l, slices.Concat(alone(0, 10*n), alone(1, 40), alone(0, 500)))
		}
	}
}

// Stores that never leave by themselves, and such that leave at once, both have witnesses; and all that a thread alone shows is shown whatever leaves.
func TestLeaving(t *testing.T) {
	for _, l := range races {
		threads := newWitnessed(t, l).Threads()
		var none, once []int
		for range 300 {
			for thread := range threads {
				none = append(none, 2*thread)
				once = append(once, 2*thread, 2*thread+1)
			}
		}
		must(t, l, none)
		must(t, l, once)
		for thread := range threads {
			var leaving []int
			for _, p := range alone(thread, 300) {
				leaving = append(leaving, p, p+1)
			}
			a, _ := whole.Run(l, alone(thread, 300))
			b, e := whole.Run(l, leaving)
			if e != api.OK || !slices.Equal(a, b) || len(a) == 0 {
				t.Errorf("P5.4: %v, %v, error %d", a, b, e)
			}
		}
	}
}
