package whole_test

import (
	"slices"
	"testing"

	"cotter/api"
	"cotter/src"
	"cotter/whole"
)

// mostSteps is how long a thread is waited for till it shows something.
const mostSteps = 100000

// director lets a machine show what picks of the sources show: each thread does steps till it has come back from what it shows, and all its stores leave.
type director struct {
	*witnessed
	sources *src.Machine
	numbers []int // of each thread of the sources, its number on the machine
	picks   []int
}

func newDirector(t *testing.T, l []string, other []string) *director {
	t.Helper()
	sources, e := src.New(reads(t, l)...)
	if e != api.OK {
		t.Fatalf("P17.2: error %d", e)
	}
	same, e := src.New(reads(t, other)...)
	if e != api.OK {
		t.Fatalf("P17.2: error %d", e)
	}
	d := &director{witnessed: newWitnessed(t, other), sources: sources}
	for _, name := range sources.Threads() {
		d.numbers = append(d.numbers, slices.Index(same.Threads(), name))
	}
	return d
}

func (d *director) do(p int) {
	d.picks = append(d.picks, p)
	d.pick(p)
}

// show does steps of a thread till it is so far, and tells whether it comes so far.
func (d *director) show(t int, far func() bool) bool {
	for range mostSteps {
		d.do(2 * t)
		d.do(2*t + 1)
		if far() {
			return true
		}
	}
	return false
}

// follow does what one pick of the sources does.
func (d *director) follow(t int) bool {
	act, on := d.sources.Next(t)
	events := len(d.sources.Events())
	if !on || !d.sources.Do(t) {
		return false
	}
	number := d.numbers[t]
	switch {
	case len(d.sources.Events()) > events:
		return d.show(number, func() bool { return len(d.Events()) > events })
	case act.Do != 0:
		acts := len(d.acts)
		return d.show(number, func() bool { return len(d.acts) > acts && d.back[number] == 0 })
	}
	return true
}

// Whatever one image shows, another one of the same declarations shows by some picks, in whatever order and by whichever modules they are given.
func TestOtherLayouts(t *testing.T) {
	shown, different := 0, 0
	for seed := range int64(200) {
		pieces, l, r := madeUp(seed)
		other := layOut(r, pieces, 1+r.Intn(4))
		if seed%3 == 0 {
			other = slices.Clone(l)
			slices.Reverse(other)
		}
		picks := manyPicks(r, 4, 1500)
		w, ok := wantWitness(t, l, picks)
		if !ok {
			continue
		}
		d := newDirector(t, l, other)
		for _, number := range w {
			if !d.follow(number) {
				t.Fatalf("P24.3: seed %d: %v does not come so far", seed, other)
			}
		}
		want, _ := whole.Run(l, picks)
		got, e := whole.Run(other, d.picks)
		if e != api.OK || !slices.Equal(named(t, other, got), named(t, l, want)) {
			t.Fatalf("P24.3: seed %d: %v, error %d; want %v", seed, got, e, want)
		}
		must(t, other, d.picks)
		shown += len(want)
		if !slices.Equal(got, want) {
			different++
		}
	}
	if shown < 400 || different < 50 {
		t.Errorf("too little was shown: %d, in other numbers %d", shown, different)
	}
}

// Threads are numbered by the modules' order.
func TestThreadNumbers(t *testing.T) {
	l := []string{"thread b { print 1; }", "lock l;", "thread a { print 2; } thread c { print 3; }"}
	for _, c := range []struct {
		order []int
		n     []int64
	}{{[]int{0, 1, 2}, []int64{1, 2, 3}}, {[]int{2, 1, 0}, []int64{2, 3, 1}}, {[]int{1, 2, 0}, []int64{2, 3, 1}}} {
		var sources []string
		for _, i := range c.order {
			sources = append(sources, l[i])
		}
		events, e := whole.Run(sources, round(3, 100))
		got := make([]int64, 3)
		for _, v := range events {
			got[v.Thread] += v.N
		}
		if e != api.OK || len(events) != 6 || !slices.Equal(got, c.n) {
			t.Errorf("P23.2: %v, error %d", events, e)
		}
		must(t, sources, round(3, 100))
	}
}
