package driver_test

import (
	"math/rand"
	"reflect"
	"slices"
	"strconv"
	"strings"
	"testing"

	"cotter/api"
	"cotter/asm"
	"cotter/check"
	"cotter/driver"
	"cotter/image"
	"cotter/lib"
	"cotter/objf"
	"cotter/parse"
	"cotter/tso"
)

// threads are the names of those that sources give, in their order.
func threads(l []api.Module) []string {
	var names []string
	for _, m := range l {
		for _, d := range m.Decls {
			if d.Kind == api.DeclThread {
				names = append(names, d.Name)
			}
		}
	}
	return names
}

func TestBuild(t *testing.T) {
	for seed := range int64(200) {
		_, l, _ := madeUp(seed)
		twins := slices.Clone(l)
		im, e := driver.Build(l...)
		if e != api.OK || image.Check(im) != api.OK {
			t.Fatalf("P23.2: seed %d: error %d, %d", seed, e, image.Check(im))
		}
		if got, want := image.Threads(im), threads(reads(t, l)); !slices.Equal(got, want) {
			t.Fatalf("P23.2: seed %d: threads %v; want %v", seed, got, want)
		}
		again, _ := driver.Build(l...)
		if !reflect.DeepEqual(im, again) || !slices.Equal(l, twins) {
			t.Fatalf("R6: seed %d", seed)
		}
		spoil(again.Data, 99)
		spoil(again.Syms, api.Sym{Name: "spoilt"})
		if again, _ = driver.Build(l...); !reflect.DeepEqual(im, again) {
			t.Fatalf("R5: seed %d", seed)
		}
	}
}

// What a thread alone shows.
func TestBuildShows(t *testing.T) {
	for _, c := range []struct {
		l    []string
		want []api.Event
	}{
		{[]string{"thread t { print 1; }"}, []api.Event{{Kind: api.EvPrint, N: 1}, {Kind: api.EvEnd}}},
		{[]string{"lock l; int x by l; thread t { var i = 0; while (i < 3) { with l { x = x + 1; } i = i + 1; } with l { print x; } }"}, []api.Event{{Kind: api.EvPrint, N: 3}, {Kind: api.EvEnd}}},
		{[]string{"thread t { print 7 / 2; print 1 / 0; print 5; }"}, []api.Event{{Kind: api.EvPrint, N: 3}, {Kind: api.EvFault, N: 1}}},
		{[]string{"", "extern queue q 1; extern int f(2) rank 4; thread t { var v = 0; v = f(5, 6); print v; v = get(q); print v; v = get(q); print v; }", "queue q 1; int f(a, b) rank 4 { var v = 0; var w = 0; v = put(q, a); w = put(q, b); return v * 10 + w; }"},
			[]api.Event{{Kind: api.EvPrint, N: 10}, {Kind: api.EvPrint, N: 5}, {Kind: api.EvPrint, N: -1}, {Kind: api.EvEnd}}},
		{[]string{"ticket l; int a[3] by l; thread t { with l { a[2] = 4; print a[2] + a[1]; a[a[2]] = 1; } }"}, []api.Event{{Kind: api.EvPrint, N: 4}, {Kind: api.EvFault, N: 2}}},
	} {
		im, e := driver.Build(c.l...)
		if e != api.OK {
			t.Fatalf("P23.2: %q: error %d", c.l, e)
		}
		if got, e := tso.Run(im, make([]int, 3000)); e != api.OK || !slices.Equal(got, c.want) {
			t.Errorf("P23.2: %q: %v, error %d; want %v", c.l, got, e, c.want)
		}
	}
}

// locks are the declarations of n locks, tickets and queues, from a number on.
func locks(from int, n int) string {
	var s strings.Builder
	for i := from; i < from+n; i++ {
		s.WriteString([]string{"lock n", "ticket n", "queue n"}[i%3] + strconv.Itoa(i) + []string{";", ";", " 3;"}[i%3])
	}
	return s.String()
}

func TestBuildErrors(t *testing.T) {
	const ok = "thread t { }"
	type list = []string
	for i, c := range []struct {
		l []string
		e api.Errno
	}{
		{nil, api.ErrLarge},
		{list{""}, api.ErrLarge},
		{list{"lock l;"}, api.ErrLarge},
		{list{"thread a { } thread b { } thread c { }", "thread d { } thread e { }"}, api.ErrLarge},
		{list{"thread a { } thread b { } thread c { }", "thread d { }"}, api.OK},
		{list{ok, "lock l; lock l;", "thread"}, api.ErrSyntax},                      // parse.Parse of all is asked first
		{list{ok, strings.Repeat(" ", 20001), "thread"}, api.ErrLarge},              // in their order
		{list{ok, "thread", strings.Repeat(" ", 20001)}, api.ErrSyntax},             // in their order
		{list{"", "", "", "", "", "", "", "", "thread"}, api.ErrSyntax},             // and then Fit
		{list{ok, "", "", "", "", "", "", "", "lock l; lock l;"}, api.ErrArg},       // nine
		{list{ok, "", "", "", "", "", "", ""}, api.OK},                              // eight
		{list{"thread t { x = 1; }", "lock l; lock l;"}, api.ErrType},               // modules, in their order
		{list{"lock l; lock l;", "thread t { x = 1; }"}, api.ErrDuplicate},          // modules, in their order
		{list{ok, ok, "thread u { x = 1; }"}, api.ErrType},                          // modules, then names
		{list{ok, ok, "extern lock l;"}, api.ErrDuplicate},                          // given twice, then needed
		{list{ok, "extern lock l; extern lock q;", "queue q 1;"}, api.ErrUndefined}, // needed, then faces
		{list{"extern lock q;", "queue q 1;"}, api.ErrInterface},                    // faces, then threads
		{list{"extern queue q 2; thread t { }", "queue q 1;"}, api.ErrInterface},
		{list{"extern lock l; thread t { with l { } }"}, api.ErrUndefined},
		{list{"extern lock l; thread t { with l { } }", "ticket l;"}, api.OK},
		{list{ok + locks(0, 16)}, api.ErrLarge},                       // one and 16
		{list{ok + locks(0, 15)}, api.OK},                             // 16
		{list{ok + locks(0, 7), locks(7, 7)}, api.OK},                 // 2 and 14
		{list{ok + locks(0, 7), locks(7, 8)}, api.ErrLarge},           // 2 and 15
		{list{ok, "", locks(0, 6), "", "", "", "", ""}, api.OK},       // 8 and 6
		{list{ok, "", locks(0, 8), "", "", "", "", ""}, api.OK},       // 8 and 8
		{list{ok, "", locks(0, 9), "", "", "", "", ""}, api.ErrLarge}, // 8 and 9
		{list{ok + locks(0, 15) + "extern lock l;"}, api.ErrUndefined},
		{list{ok + locks(0, 13) + "extern lock l;", "lock l; extern ticket n0;"}, api.OK},             // what is needed is no more
		{list{ok + locks(0, 14) + "extern lock l;", "lock l;"}, api.ErrLarge},                         // 2 and 15
		{list{locks(0, 16)}, api.ErrLarge},                                                            // no threads, too
		{list{ok + locks(0, 16), "queue l 1;", "extern lock l;"}, api.ErrInterface},                   // Fit is asked first
		{list{"thread t { }", "int f() rank 0 { }", "extern int f(0) rank 1;"}, api.ErrInterface},     // rank
		{list{"thread t { }", "lock l; int x by l;", "lock k; extern int x by k;"}, api.ErrInterface}, // by
	} {
		im, e := driver.Build(c.l...)
		if e != c.e || e != api.OK && !reflect.DeepEqual(im, api.Image{}) {
			t.Errorf("P23.2: case %d: %.100q: %v, error %d; want %d", i, c.l, im, e, c.e)
		}
		if e == api.OK && image.Check(im) != api.OK {
			t.Errorf("P23.2: case %d: error %d", i, image.Check(im))
		}
	}
	for _, c := range wrong {
		if im, e := driver.Build(ok, c.s); e != c.e || !reflect.DeepEqual(im, api.Image{}) {
			t.Errorf("P23.2: %.60q: %v, error %d; want %d", c.s, im, e, c.e)
		}
	}
}

// buildError is what Build answers of small sources.
func buildError(l []string) api.Errno {
	var modules []api.Module
	objects := len(l)
	for _, s := range l {
		m, e := parse.Parse(s)
		if e != api.OK {
			return e
		}
		modules = append(modules, m)
		for _, d := range m.Decls {
			if !d.Extern && slices.Contains([]int{api.DeclLock, api.DeclTicket, api.DeclQueue}, d.Kind) {
				objects++
			}
		}
	}
	if e := check.Fit(modules...); e != api.OK {
		return e
	}
	if objects > 16 {
		return api.ErrLarge
	}
	return api.OK
}

// Whether sources are built hangs on no order, nor on who declares what; what comes out when some are spoilt is as it must be.
func TestBuildLayouts(t *testing.T) {
	seen := map[api.Errno]int{}
	for seed := range int64(250) {
		pieces, l, r := madeUp(seed)
		if seed%3 == 0 {
			pieces = append(pieces, piece{locks(0, 9+r.Intn(4)), ""})
		}
		if seed%5 == 0 {
			pieces[r.Intn(12)].extern = []string{"", "extern queue zz 1;", "extern queue q 3;", "extern int f0(2) rank 0;"}[r.Intn(4)]
		}
		built := map[bool]int{}
		for range 4 {
			l = layOut(r, pieces, len(l))
			im, e := driver.Build(l...)
			if e != buildError(l) || e == api.OK && image.Check(im) != api.OK {
				t.Fatalf("P23.2: seed %d: error %d; want %d", seed, e, buildError(l))
			}
			seen[e]++
			other := slices.Clone(l)
			slices.Reverse(other)
			if _, f := driver.Build(other...); (e == api.OK) != (f == api.OK) {
				t.Fatalf("P23.4: seed %d: error %d, in another order %d", seed, e, f)
			}
			built[e == api.OK]++
		}
		if len(built) > 1 && seed%5 != 0 { // what was spoilt is sometimes not said
			t.Fatalf("P23.4: seed %d: %v", seed, built)
		}
		k := r.Intn(len(l))
		l[k] = spoilt(t, r, l[k])
		if _, e := driver.Build(l...); e != buildError(l) {
			t.Fatalf("P23.2: seed %d: %q: error %d; want %d", seed, l, e, buildError(l))
		}
	}
	for _, e := range []api.Errno{api.OK, api.ErrLarge, api.ErrUndefined, api.ErrInterface, api.ErrType} {
		if seen[e] < 3 {
			t.Errorf("too few errors %d: %v", e, seen)
		}
	}
}

// sharedObjects are the objects of the locks and queues that modules give, as bytes.
func sharedObjects(t *testing.T, l []api.Module) []string {
	t.Helper()
	var all []string
	for _, m := range l {
		for _, d := range m.Decls {
			var items []api.Item
			switch {
			case d.Extern:
			case d.Kind == api.DeclLock:
				items, _ = lib.Spin(d.Name)
			case d.Kind == api.DeclTicket:
				items, _ = lib.Ticket(d.Name)
			case d.Kind == api.DeclQueue:
				items, _ = lib.Queue(d.Name, d.N)
			}
			if items != nil {
				o, _ := asm.Assemble(items)
				all = append(all, written(t, o))
			}
		}
	}
	return all
}

func written(t *testing.T, o api.Object) string {
	t.Helper()
	s, e := objf.Write(o)
	if e != api.OK {
		t.Fatalf("P6.2: error %d", e)
	}
	return s
}

// Modules that were compiled, each alone, are joined with locks and queues in any order: what each thread alone shows is what it shows of the sources that were built at once.
func TestCompileAndJoin(t *testing.T) {
	shown := 0
	for seed := range int64(120) {
		_, l, r := madeUp(seed)
		forms := sharedObjects(t, reads(t, l))
		for _, s := range l {
			o, e := driver.Compile(s)
			if e != api.OK {
				t.Fatalf("P23.1: seed %d: error %d", seed, e)
			}
			forms = append(forms, written(t, o))
		}
		r.Shuffle(len(forms), func(i, j int) { forms[i], forms[j] = forms[j], forms[i] })
		im, e := driver.Build(l...)
		if e != api.OK {
			t.Fatalf("P23.2: seed %d: error %d", seed, e)
		}
		joined, e := driver.Join(forms...)
		if e != api.OK {
			t.Fatalf("P23.3: seed %d: error %d", seed, e)
		}
		for i, name := range image.Threads(im) {
			j := slices.Index(image.Threads(joined), name)
			want, _ := tso.Run(im, slices.Repeat([]int{2 * i}, 3000))
			got, _ := tso.Run(joined, slices.Repeat([]int{2 * j}, 3000))
			for k := range got {
				got[k].Thread = i
			}
			if !slices.Equal(got, want) {
				t.Fatalf("P3: seed %d: %v; want %v", seed, got, want)
			}
			shown += len(want)
		}
	}
	if shown < 300 {
		t.Errorf("too little was shown: %d", shown)
	}
}

// isOne tells whether an error is one that the toolchain may answer.
func isOne(e api.Errno) bool { return e >= api.OK && e <= api.ErrObject }

// Whatever bytes are given, each call ends.
func TestAnyBytes(t *testing.T) {
	const often = "thread t { } lock l; 0\x00\x01COT1"
	for seed := range int64(3000) {
		r := rand.New(rand.NewSource(seed))
		l := make([]string, r.Intn(4))
		for i := range l {
			b := make([]byte, r.Intn(60))
			for k := range b {
				b[k] = byte(r.Intn(256))
				if r.Intn(2) == 0 {
					b[k] = often[r.Intn(len(often))]
				}
			}
			l[i] = string(b)
			if o, e := driver.Compile(l[i]); !isOne(e) || e != api.OK && !reflect.DeepEqual(o, api.Object{}) {
				t.Fatalf("P23.4: Compile(%q): error %d", l[i], e)
			}
		}
		if im, e := driver.Build(l...); !isOne(e) || e != api.OK && !reflect.DeepEqual(im, api.Image{}) {
			t.Fatalf("P23.4: Build(%q): error %d", l, e)
		}
		if im, e := driver.Join(l...); !isOne(e) || e != api.OK && !reflect.DeepEqual(im, api.Image{}) {
			t.Fatalf("P23.4: Join(%q): error %d", l, e)
		}
	}
}
