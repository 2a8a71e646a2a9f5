package lib_test

import (
	"slices"
	"strings"
	"testing"

	"cotter/api"
	"cotter/asm"
	"cotter/asmtext"
	"cotter/image"
	"cotter/lib"
	"cotter/link"
)

// The calls have the types that the chapter lists.
var (
	_ func(string) ([]api.Item, api.Errno)      = lib.Spin
	_ func(string) ([]api.Item, api.Errno)      = lib.Ticket
	_ func(string, int) ([]api.Item, api.Errno) = lib.Queue
)

// maker makes one of the objects by a name; size is 0 of a lock.
type maker struct {
	what string
	size int
	make func(string) ([]api.Item, api.Errno)
}

func locks() []maker {
	return []maker{{"spin", 0, lib.Spin}, {"ticket", 0, lib.Ticket}}
}

func queueOf(size int) maker {
	return maker{"queue", size, func(name string) ([]api.Item, api.Errno) { return lib.Queue(name, size) }}
}

func makers() []maker {
	l := locks()
	for size := 1; size <= api.MaxCap; size++ {
		l = append(l, queueOf(size))
	}
	return l
}

// functions are those of an object, in the order of their texts.
func (m maker) functions(name string) []string {
	if m.size == 0 {
		return []string{name + ".acq", name + ".rel"}
	}
	return []string{name + ".get", name + ".put"}
}

func sameItem(a api.Item, b api.Item) bool {
	return a.Kind == b.Kind && a.Name == b.Name && a.Ins == b.Ins && slices.Equal(a.Words, b.Words)
}

func same(a []api.Item, b []api.Item) bool {
	return slices.EqualFunc(a, b, sameItem)
}

func goodNames() []string {
	return []string{"l", "Q", "_", "a1", "l_2.b", "x.", "_.", "abcdefghijklmnop", "A23456789012345_", "a..............b", "acq", "rel", "put", "get", "data", "r1", "ret", "l.acq", "q.put", "q.data", "l.acq.again"}
}

func badNames() []string {
	return []string{"", " ", "1", "1a", ".", ".a", "a b", "a ", " a", "a-b", "a:", "a#", "#", "@", "a@", "a\n", "\n", "a\nret\nb", "a\x00", "\x00", "\xff", "ä", "a\tb", "abcdefghijklmnopq", "A234567890123456_", "a" + strings.Repeat(".", 27), strings.Repeat("x", 28), strings.Repeat("x", 29), strings.Repeat("x", 70000), strings.Repeat("x", 300000)}
}

// assembled is the object of items that must be.
func assembled(t *testing.T, m maker, name string) api.Object {
	t.Helper()
	l, e := m.make(name)
	if e != api.OK || asmtext.Check(l) != api.OK {
		t.Fatalf("P12.1: %s of %q: error %d", m.what, name, e)
	}
	o, e := asm.Assemble(l)
	if e != api.OK {
		t.Fatalf("P12.1: %s of %q: Assemble: error %d", m.what, name, e)
	}
	return o
}

func TestObjects(t *testing.T) {
	for _, m := range makers() {
		for _, name := range goodNames() {
			o := assembled(t, m, name)
			wantSymbols(t, m, name, o)
			if len(o.Code) > 400 || len(o.Data) > 20 {
				t.Errorf("P12.1: %s of %q: %d bytes, %d words", m.what, name, len(o.Code), len(o.Data))
			}
		}
	}
}

func wantSymbols(t *testing.T, m maker, name string, o api.Object) {
	t.Helper()
	var functions, all []string
	for _, s := range o.Syms {
		all = append(all, s.Name)
		if s.Kind == api.SymCode {
			functions = append(functions, s.Name)
			continue
		}
		if s.Kind != api.SymData || !strings.HasPrefix(s.Name, name+".") {
			t.Errorf("P12.1: %s of %q: the symbol %v", m.what, name, s)
		}
	}
	slices.Sort(functions)
	if !slices.Equal(functions, m.functions(name)) {
		t.Errorf("P12.1: %s of %q: the functions %v", m.what, name, functions)
	}
	for _, r := range o.Relocs {
		if !slices.Contains(all, r.Name) {
			t.Errorf("P12.1: %s of %q: the relocation %v", m.what, name, r)
		}
	}
}

func TestNamesThatMayNotBe(t *testing.T) {
	for _, m := range makers() {
		for _, name := range badNames() {
			if l, e := m.make(name); len(l) != 0 || e != api.ErrArg {
				t.Errorf("P12.1, R3: %s of %.40q: %d items, error %d", m.what, name, len(l), e)
			}
		}
	}
}

func TestSizesThatMayNotBe(t *testing.T) {
	for _, size := range []int{0, 9, -1, 10, 16, 1 << 40, -1 << 62} {
		for _, name := range []string{"q", "", "q q"} {
			if l, e := lib.Queue(name, size); len(l) != 0 || e != api.ErrArg {
				t.Errorf("P12.1, R3: queue of %q, %d: %d items, error %d", name, size, len(l), e)
			}
		}
	}
}

// Every byte that a name can't have is refused, wherever it stands; every other one is taken.
func TestEachByteOfAName(t *testing.T) {
	for b := range 256 {
		c := string([]byte{byte(b)})
		letter := strings.Contains("abcdefghijklmnopqrstuvwxyzABCDEFGHIJKLMNOPQRSTUVWXYZ_", c)
		inner := letter || strings.Contains("0123456789.", c)
		for name, ok := range map[string]bool{c: letter, c + "x": letter, "x" + c: inner, "x" + c + "x": inner} {
			for _, m := range []maker{locks()[0], locks()[1], queueOf(3)} {
				if l, e := m.make(name); ok != (e == api.OK) || ok != (len(l) > 0) {
					t.Errorf("P12.1: %s of %q: %d items, error %d", m.what, name, len(l), e)
				}
			}
		}
	}
}

// Objects of other names, and of all kinds, can be linked beside one another, with one that calls them all.
func TestObjectsTogether(t *testing.T) {
	var text strings.Builder
	text.WriteString(".thread t\nt:\n")
	l := []api.Object{{}}
	for k, m := range makers() {
		name := "obj" + string(rune('a'+k))
		l = append(l, assembled(t, m, name))
		for _, f := range m.functions(name) {
			text.WriteString("call " + f + "\n")
		}
	}
	var e api.Errno
	if l[0], e = asm.Text(text.String() + "halt\n"); e != api.OK {
		t.Fatalf("P10.2: error %d", e)
	}
	im, e := link.Link(l...)
	if e != api.OK || image.Check(im) != api.OK {
		t.Errorf("P12.1: Link: error %d, Check: error %d", e, image.Check(im))
	}
}

// A name is nothing but a name: with another one all code is the same.
func TestNamesTurnNothing(t *testing.T) {
	for _, m := range makers() {
		o := assembled(t, m, "l")
		for _, name := range goodNames() {
			if p := assembled(t, m, name); p.Code != o.Code || !slices.Equal(p.Data, o.Data) || len(p.Relocs) != len(o.Relocs) {
				t.Errorf("P12.1: %s of %q is other than of %q", m.what, name, "l")
			}
		}
	}
}

// spoil writes into all that an answer has, its spare room too.
func spoil(l []api.Item) {
	l = l[:cap(l)]
	for k := range l {
		words := l[k].Words[:cap(l[k].Words)]
		for i := range words {
			words[i] = 4242
		}
		l[k].Kind, l[k].Name, l[k].Ins = 77, "spoiled", api.Ins{Op: 77}
	}
}

func copyOf(l []api.Item) []api.Item {
	var next []api.Item
	for _, t := range l {
		t.Words = append([]int64(nil), t.Words...)
		next = append(next, t)
	}
	return next
}

func TestAnswersAreNewMemory(t *testing.T) {
	for _, m := range makers() {
		first, _ := m.make("x")
		want := copyOf(first)
		second, _ := m.make("x")
		spoil(first)
		if !same(second, want) {
			t.Errorf("R5: %s: two answers share memory", m.what)
		}
		if third, e := m.make("x"); !same(third, want) || e != api.OK {
			t.Errorf("R5, R6: %s: an answer is kept", m.what)
		}
	}
}

func TestListsOfAnAnswerAreApart(t *testing.T) {
	for _, m := range makers() {
		l, _ := m.make("x")
		for k := range l {
			words := l[k].Words[:cap(l[k].Words)]
			was := copyOf(l)
			for i := range words {
				words[i] = 4242
			}
			for i := range l {
				if i != k && !sameItem(l[i], was[i]) {
					t.Errorf("R5: %s: items %d and %d share memory", m.what, k, i)
				}
			}
		}
	}
}
