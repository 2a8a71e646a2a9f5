package whole_test

import (
	"fmt"
	"math"
	"reflect"
	"slices"
	"strings"
	"testing"

	"cotter/api"
	"cotter/driver"
	"cotter/hist"
	"cotter/src"
	"cotter/tso"
	"cotter/whole"
)

// maxActs is how many acts a run may show that must have a witness.
const maxActs = 60

// wantWitness: what comes out shows what the machine shows. It answers whether one came out.
func wantWitness(t *testing.T, l []string, picks []int) ([]int, bool) {
	t.Helper()
	want, e := whole.Run(l, picks)
	if e != api.OK {
		t.Fatalf("P24.1: error %d", e)
	}
	w, e := whole.Witness(l, picks)
	if e != api.OK {
		if e != api.ErrLarge || len(w) != 0 {
			t.Fatalf("P24.2: %v, error %d", w, e)
		}
		return nil, false
	}
	if got, e := whole.Source(l, w); e != api.OK || !slices.Equal(got, want) {
		t.Fatalf("P24.2: the witness %v shows %v, error %d; want %v; %q, %v", w, got, e, want, l, picks)
	}
	return w, true
}

// must have a witness.
func must(t *testing.T, l []string, picks []int) []int {
	t.Helper()
	w, ok := wantWitness(t, l, picks)
	if !ok {
		t.Fatalf("P24.2: no witness: %.200q, %d picks", l, len(picks))
	}
	return w
}

// Whatever the picks: locks and queues can have been used one by one, nobody touches what waits, and there is a witness if few acts are shown.
func TestWitness(t *testing.T) {
	kinds, pending, large := map[int]int{}, map[int]int{}, 0
	for seed := range int64(700) {
		_, l, r := madeUp(seed)
		w := newWitnessed(t, l)
		picks := manyPicks(r, w.Threads(), 3000)
		for _, p := range picks {
			if wrong := w.pick(p); wrong != "" {
				t.Fatalf("seed %d: %s", seed, wrong)
			}
		}
		if _, ok := wantWitness(t, l, picks); !ok {
			if large++; len(w.acts) <= maxActs {
				t.Fatalf("P24.2: seed %d: no witness of %d acts", seed, len(w.acts))
			}
			continue
		}
		if len(w.acts) > maxActs {
			continue
		}
		if _, ok := hist.Order(atoms(reads(t, l)), w.acts); !ok {
			t.Fatalf("P2: seed %d: no order of %+v", seed, w.acts)
		}
		for _, a := range w.acts {
			kinds[a.Do]++
			if a.Back < 0 {
				pending[a.Do]++
			}
		}
	}
	for do := api.DoAcquire; do <= api.DoPrint; do++ {
		if kinds[do] < 700 || do != api.DoPrint && pending[do] < 3 {
			t.Errorf("too little was done: %v, %v", kinds, pending)
		}
	}
	if large > 250 {
		t.Errorf("too many acts, %d times", large)
	}
}

// round lets each of some threads do n steps in turn, and all stores leave at once.
func round(threads int, n int) []int {
	var l []int
	for i := range n * threads {
		l = append(l, 2*(i%threads), 2*(i%threads)+1)
	}
	return l
}

// alone lets one thread do steps alone.
func alone(thread int, n int) []int {
	return slices.Repeat([]int{2 * thread}, n)
}

// The examples of the document, and ones by hand.
func TestExamples(t *testing.T) {
	const two = "lock l; int x by l; thread t { with l { x = x + 1; print x; } } thread u { with l { x = x + 1; print x; } }"
	if w := must(t, []string{"thread t { print 1; }"}, alone(0, 100)); !slices.Equal(w, []int{0, 0}) {
		t.Errorf("P24.2: %v", w)
	}
	if l, e := whole.Run([]string{"thread t { print 1; }"}, alone(0, 100)); e != api.OK || !slices.Equal(l, []api.Event{{Kind: api.EvPrint, N: 1}, {Kind: api.EvEnd}}) {
		t.Errorf("P24.1: %v, error %d", l, e)
	}
	for _, picks := range [][]int{round(2, 200), append(alone(0, 200), alone(1, 200)...), append(alone(1, 200), round(2, 300)...), append(alone(1, 12), round(2, 300)...)} {
		must(t, []string{two}, picks)
		l, _ := whole.Run([]string{two}, picks)
		var printed []int64
		for _, v := range l {
			if v.Kind == api.EvPrint {
				printed = append(printed, v.N)
			}
		}
		if !slices.Equal(printed, []int64{1, 2}[:len(printed)]) {
			t.Errorf("P24.1: %v", l)
		}
	}
	for s, want := range map[string][]api.Event{
		"thread t { print 7 / 2; print 1 / 0; }":                       {{Kind: api.EvPrint, N: 3}, {Kind: api.EvFault, N: 1}},
		"lock l; int a[3] by l; thread t { with l { print a[3]; } }":   {{Kind: api.EvFault, N: 2}},
		"lock l; int a[3] by l; thread t { with l { a[0 - 1] = 1; } }": {{Kind: api.EvFault, N: 2}},
		"thread t { while (1) { } }":                                   nil,
		"queue q 1; thread t { var v = 0; v = put(q, 5); print v; v = put(q, 6); print v; v = get(q); print v; v = get(q); print v; }": {
			{Kind: api.EvPrint, N: 1}, {Kind: api.EvPrint, N: 0}, {Kind: api.EvPrint, N: 5}, {Kind: api.EvPrint, N: -1}, {Kind: api.EvEnd}},
	} {
		if l, e := whole.Run([]string{s}, alone(0, 1000)); e != api.OK || !slices.Equal(l, want) {
			t.Errorf("P24.1: %q: %v, error %d; want %v", s, l, e, want)
		}
		must(t, []string{s}, alone(0, 1000))
	}
}

// What the machine shows is sometimes what the picks' own order would not show: one that put has not come back when another one gets; one that let go is behind one that took.
func TestPending(t *testing.T) {
	l := []string{"queue q 2; thread t { put(q, 7); print 1; } thread u { var v = 0 - 1; while (v < 0) { v = get(q); } print v; }"}
	got := 0
	for n := range 60 {
		w := newWitnessed(t, l)
		picks := append(alone(0, n), 1, 1, 1, 1, 1, 1, 1, 1)
		picks = append(picks, alone(1, 400)...)
		for _, p := range picks {
			w.pick(p)
		}
		if len(w.acts) > maxActs {
			continue
		}
		must(t, l, picks)
		if w.acts[0].Do == api.DoPut && w.acts[0].Back == -1 && slices.ContainsFunc(w.Events(), func(v api.Event) bool { return v.Thread == 1 && v.N == 7 }) {
			got++
		}
	}
	if got == 0 {
		t.Error("nothing was got ahead of the put's coming back")
	}
}

// A print is an act, a call that waits is one, and so is an end: sixty must have a witness.
func TestMostActs(t *testing.T) {
	prints := func(n int) string { return "thread t { " + strings.Repeat("print 3; ", n) + "}" }
	for n := 55; n < 70; n++ {
		w, ok := wantWitness(t, []string{prints(n)}, alone(0, 2000))
		if !ok && n+1 <= maxActs {
			t.Errorf("P24.2: no witness of %d prints and an end", n)
		}
		if ok && len(w) < n+1 {
			t.Errorf("P24.2: %v", w)
		}
	}
	const pairs = "lock l; queue q 1; thread t { with l { } put(q, 1); get(q); "
	for n := range 20 {
		s := pairs + strings.Repeat("with l { get(q); } ", n) + "}" // 2 + 2 + 3 n + 1
		if _, ok := wantWitness(t, []string{s}, alone(0, 5000)); !ok && 5+3*n <= maxActs {
			t.Errorf("P24.2: no witness of %d acts", 5+3*n)
		}
	}
	// One that waits is one act, however long it waits; what another thread would show is none.
	waits := []string{"lock l; thread t { with l { while (1) { } } } thread u { with l { } }", prints(57)}
	waits[1] = strings.Replace(waits[1], "thread t", "thread w", 1)
	must(t, waits, slices.Concat(alone(0, 300), alone(1, 5000), alone(2, 2000)))
}

// Nearly 3000 operations, one behind the other, that nobody sees.
func TestMostUnseen(t *testing.T) {
	for _, n := range []string{"10", "100", "990", "998"} {
		l := []string{"lock l; int x by l; thread t { var i = 0; while (i < " + n + ") { i = i + 1; } print i; with l { i = 0; while (i < " + n + ") { x = x + 1; i = i + 1; if (x == i) { } else { i = 0; } } } i = 1 / 0; }"}
		if n == "990" || n == "998" {
			l[0] = "thread t { var i = 0; while (i < " + n + ") { i = i + 1; } print i; i = 0; while (i < " + n + ") { i = i + 1; } i = 1 / 0; }"
		}
		must(t, l, alone(0, 40000))
	}
	plain := "thread t { var i = 0; " + strings.Repeat("i = i + 1; ", 600) + "print i; }"
	must(t, []string{plain}, alone(0, 5000))
	// So many that none need be: what comes out is right still.
	wantWitness(t, []string{"thread t { var i = 0; while (i < 9000) { i = i + 1; } print i; }"}, alone(0, 200000))
	if w, ok := wantWitness(t, []string{"thread t { while (1) { } }"}, alone(0, 20000)); ok && len(w) > 0 {
		t.Errorf("nothing is shown, but the witness has %d picks", len(w))
	}
}

func TestErrors(t *testing.T) {
	for _, c := range []struct {
		l      []string
		run    api.Errno
		source api.Errno
	}{
		{nil, api.ErrLarge, api.ErrLarge},
		{[]string{"thread"}, api.ErrSyntax, api.ErrSyntax},
		{[]string{"thread t { x = 1; }"}, api.ErrType, api.ErrType},
		{[]string{"thread t { x = 1; }", "thread"}, api.ErrSyntax, api.ErrSyntax},
		{[]string{strings.Repeat(" ", 20001), "thread"}, api.ErrLarge, api.ErrLarge},
		{[]string{"extern lock l; thread t { with l { } }"}, api.ErrUndefined, api.ErrUndefined},
		{[]string{"lock l; thread t { }", "lock l;"}, api.ErrDuplicate, api.ErrDuplicate},
		{[]string{"extern lock l; thread t { }", "queue l 1;"}, api.ErrInterface, api.ErrInterface},
		{[]string{"lock l;"}, api.ErrLarge, api.ErrLarge},
		{[]string{"thread t { }", "", "", "", "", "", "", "", ""}, api.ErrArg, api.ErrArg},
		{[]string{"thread t { } lock a; lock b; lock c; lock d; lock e; lock f; lock g; lock h; lock i; lock j; lock k; lock m; lock n; lock o; lock p; lock q;"}, api.ErrLarge, api.OK},
		{[]string{"thread t { }", "", "", "", "", "", "", ""}, api.OK, api.OK},
	} {
		for _, picks := range [][]int{nil, {0, 0, 0}} {
			if l, e := whole.Run(c.l, picks); e != c.run || e != api.OK && len(l) != 0 {
				t.Errorf("P24.1: Run(%.80q): %v, error %d; want %d", c.l, l, e, c.run)
			}
			if l, e := whole.Witness(c.l, picks); e != c.run || e != api.OK && len(l) != 0 {
				t.Errorf("P24.2: Witness(%.80q): %v, error %d; want %d", c.l, l, e, c.run)
			}
			if l, e := whole.Source(c.l, picks); e != c.source || e != api.OK && len(l) != 0 {
				t.Errorf("P24.1: Source(%.80q): %v, error %d; want %d", c.l, l, e, c.source)
			}
		}
	}
}

// Run is the machine's, Source the sources'; whatever the picks are.
func TestBothSides(t *testing.T) {
	events := 0
	for seed := range int64(120) {
		_, l, r := madeUp(seed)
		im := built(t, l)
		picks := manyPicks(r, 1+r.Intn(4), 2000)
		picks = append(picks, math.MinInt, math.MaxInt, -1, -2, math.MinInt+1)
		twins, picked := slices.Clone(l), slices.Clone(picks)
		want, _ := tso.Run(im, picks)
		plain, _ := src.Run(reads(t, l), picks)
		events += len(want) + len(plain)
		for range 2 {
			if got, e := whole.Run(l, picks); e != api.OK || !slices.Equal(got, want) {
				t.Fatalf("P24.1: seed %d: Run: %v, error %d; want %v", seed, got, e, want)
			} else {
				spoil(got, api.Event{Thread: 9})
			}
			if got, e := whole.Source(l, picks); e != api.OK || !slices.Equal(got, plain) {
				t.Fatalf("P24.1: seed %d: Source: %v, error %d; want %v", seed, got, e, plain)
			} else {
				spoil(got, api.Event{Thread: 9})
			}
		}
		first, e := whole.Witness(l, picks)
		first = slices.Clone(first)
		for range 2 {
			again, f := whole.Witness(l, picks)
			if f != e || !slices.Equal(again, first) {
				t.Fatalf("R6: seed %d: %v, error %d, then %v, error %d", seed, first, e, again, f)
			}
			spoil(again, 99)
		}
		if !reflect.DeepEqual(l, twins) || !reflect.DeepEqual(picks, picked) {
			t.Fatalf("R5: seed %d: what is handed in is changed", seed)
		}
	}
	if events < 800 {
		t.Errorf("too little was shown: %d", events)
	}
}

// spoil overwrites a list with all its spare room.
func spoil[T any](l []T, with T) {
	l = l[:cap(l)]
	for i := range l {
		l[i] = with
	}
}

// named are events with their threads' names.
func named(t *testing.T, l []string, events []api.Event) []string {
	t.Helper()
	m, e := src.New(reads(t, l)...)
	if e != api.OK {
		t.Fatalf("P17.2: error %d", e)
	}
	var all []string
	for _, v := range events {
		all = append(all, fmt.Sprint(m.Threads()[v.Thread], " ", v.Kind, " ", v.N))
	}
	return all
}

// Errors of the driver are those of Run and Witness.
func TestBuildErrors(t *testing.T) {
	for seed := range int64(120) {
		_, l, r := madeUp(seed)
		i := r.Intn(len(l))
		at := r.Intn(len(l[i]))
		l[i] = l[i][:at] + []string{"", " ", "x", ";", "}", "0", "extern "}[r.Intn(7)] + l[i][at+r.Intn(min(3, len(l[i])-at)):]
		_, want := driver.Build(l...)
		if _, e := whole.Run(l, nil); e != want {
			t.Errorf("P24.1: %q: error %d; want %d", l, e, want)
		}
		if _, e := whole.Witness(l, nil); e != want {
			t.Errorf("P24.2: %q: error %d; want %d", l, e, want)
		}
	}
}
