package link_test

import (
	"encoding/binary"
	"math"
	"math/rand"
	"slices"
	"strconv"
	"strings"
	"testing"

	"cotter/api"
	"cotter/link"
	"cotter/objf"
)

// The call has the type that the chapter lists.
var _ func(...api.Object) (api.Image, api.Errno) = link.Link

func sym(name string, kind int, at int) api.Sym {
	return api.Sym{Name: name, Kind: kind, At: at}
}

func rel(at int, kind int, name string, add int64) api.Reloc {
	return api.Reloc{At: at, Kind: kind, Name: name, Add: add}
}

// code has so many bytes, none of them 0.
func code(n int) string {
	return strings.Repeat("c", n)
}

// thread is an object with one alone, threads one with several, symbols one with names of code.
func thread() api.Object {
	return api.Object{Code: "\x20", Syms: []api.Sym{sym("main", api.SymThread, 0)}}
}

func threads(n int, name string) api.Object {
	o := api.Object{Code: "\x20"}
	for k := range n {
		o.Syms = append(o.Syms, sym(name+strconv.Itoa(k), api.SymThread, 0))
	}
	return o
}

func symbols(n int, name string) api.Object {
	o := api.Object{Code: "c"}
	for k := range n {
		o.Syms = append(o.Syms, sym(name+strconv.Itoa(k), api.SymCode, 0))
	}
	return o
}

// four is a number's four bytes, by the library, not by the layer below.
func four(n int64) string {
	return string(binary.LittleEndian.AppendUint32(nil, uint32(int32(n))))
}

func same(a api.Image, b api.Image) bool {
	return a.Code == b.Code && slices.Equal(a.Data, b.Data) && slices.Equal(a.Syms, b.Syms)
}

// wantError wants one, and nothing beside it.
func wantError(t *testing.T, name string, want api.Errno, l ...api.Object) {
	t.Helper()
	if im, e := link.Link(l...); e != want || !same(im, api.Image{}) {
		t.Errorf("P7.1, R3: %s: %d bytes, %d words, %d symbols, error %d; want error %d", name, len(im.Code), len(im.Data), len(im.Syms), e, want)
	}
}

func wantImage(t *testing.T, name string, want api.Image, l ...api.Object) {
	t.Helper()
	if im, e := link.Link(l...); e != api.OK || !same(im, want) {
		t.Errorf("P7.1: %s: %v, error %d; want %v", name, im, e, want)
	}
}

func TestImages(t *testing.T) {
	f := api.Object{Code: "ab1234c", Data: []int64{5, -6}, Syms: []api.Sym{sym("f", api.SymCode, 6), sym("x", api.SymData, 1)}, Relocs: []api.Reloc{rel(2, api.RelJump, "g", 0)}}
	g := api.Object{Code: "d5678efgh9999", Data: []int64{math.MinInt64}, Syms: []api.Sym{sym("y", api.SymData, 0), sym("g", api.SymThread, 5)}, Relocs: []api.Reloc{rel(1, api.RelAddr, "x", -8), rel(9, api.RelJump, "f", 0)}}
	for _, c := range []struct {
		name string
		l    []api.Object
		want api.Image
	}{
		{"one thread", []api.Object{thread()}, api.Image{Code: "\x20", Syms: thread().Syms}},
		{"an object ahead of it", []api.Object{{Code: "abc", Data: []int64{1}}, thread()}, api.Image{Code: "abc\x20", Data: []int64{1}, Syms: []api.Sym{sym("main", api.SymThread, 3)}}},
		{"objects without anything", []api.Object{{}, thread(), {}}, api.Image{Code: "\x20", Syms: thread().Syms}},
		{"two that name one another", []api.Object{f, g}, api.Image{
			Code: "ab" + four(12-6) + "c" + "d" + four(1<<20+8-8) + "efgh" + four(6-20),
			Data: []int64{5, -6, math.MinInt64},
			Syms: []api.Sym{sym("f", api.SymCode, 6), sym("x", api.SymData, 1), sym("y", api.SymData, 2), sym("g", api.SymThread, 12)}}},
		{"the same in the other order", []api.Object{g, f}, api.Image{
			Code: "d" + four(1<<20+16-8) + "efgh" + four(19-13) + "ab" + four(5-19) + "c",
			Data: []int64{math.MinInt64, 5, -6},
			Syms: []api.Sym{sym("y", api.SymData, 0), sym("g", api.SymThread, 5), sym("f", api.SymCode, 19), sym("x", api.SymData, 2)}}},
		{"one that names itself", []api.Object{{Code: "\x14....", Data: []int64{7}, Syms: []api.Sym{sym("t", api.SymThread, 0)}, Relocs: []api.Reloc{rel(1, api.RelJump, "t", 0)}}}, api.Image{
			Code: "\x14" + four(-5), Data: []int64{7}, Syms: []api.Sym{sym("t", api.SymThread, 0)}}},
		{"a jump to the place behind, and into itself", []api.Object{{Code: ".......c", Syms: []api.Sym{sym("t", api.SymThread, 4), sym("u", api.SymCode, 1)}, Relocs: []api.Reloc{rel(0, api.RelJump, "t", 0)}}, {Code: "....", Relocs: []api.Reloc{rel(0, api.RelJump, "u", 0)}}}, api.Image{
			Code: four(0) + "...c" + four(1-12), Syms: []api.Sym{sym("t", api.SymThread, 4), sym("u", api.SymCode, 1)}}},
		{"symbols at one place", []api.Object{{Code: "c", Data: []int64{1}, Syms: []api.Sym{sym("t", 3, 0), sym("a", 1, 0), sym("x", 2, 0), sym("y", 2, 0)}}}, api.Image{
			Code: "c", Data: []int64{1}, Syms: []api.Sym{sym("t", 3, 0), sym("a", 1, 0), sym("x", 2, 0), sym("y", 2, 0)}}},
		{"places side by side", []api.Object{{Code: "abcdefgh", Data: []int64{1, 2}, Syms: []api.Sym{sym("t", 3, 0), sym("x", 2, 1)}, Relocs: []api.Reloc{rel(0, 2, "x", 0), rel(4, 1, "t", 0)}}}, api.Image{
			Code: four(1<<20+8) + four(-8), Data: []int64{1, 2}, Syms: []api.Sym{sym("t", 3, 0), sym("x", 2, 1)}}},
		{"names of any bytes", []api.Object{{Code: "abcd", Syms: []api.Sym{sym("\x00\xff", 3, 1)}}, {Code: "abcd", Relocs: []api.Reloc{rel(0, 1, "\x00\xff", 0)}}}, api.Image{
			Code: "abcd" + four(1-8), Syms: []api.Sym{sym("\x00\xff", 3, 1)}}},
	} {
		wantImage(t, c.name, c.want, c.l...)
	}
}

func TestHowManyObjects(t *testing.T) {
	wantError(t, "no objects", api.ErrLarge)
	l := make([]api.Object, 17)
	l[15] = thread()
	wantImage(t, "16 objects", api.Image{Code: "\x20", Syms: thread().Syms}, l[:16]...)
	wantError(t, "17 objects", api.ErrArg, l...)
	wantError(t, "many objects", api.ErrArg, make([]api.Object, 100000)...)
}

func TestObjectsThatMayNotBe(t *testing.T) {
	for _, c := range []struct {
		name string
		o    api.Object
	}{
		{"too much code", api.Object{Code: code(65537)}},
		{"too much data", api.Object{Data: make([]int64, 4097)}},
		{"too many symbols", symbols(1001, "s")},
		{"a name twice in one object", api.Object{Code: "c", Syms: []api.Sym{sym("a", 1, 0), sym("a", 1, 0)}}},
		{"no name", api.Object{Code: "c", Syms: []api.Sym{sym("", 1, 0)}}},
		{"a long name", api.Object{Code: "c", Syms: []api.Sym{sym(code(29), 1, 0)}}},
		{"a symbol of no kind", api.Object{Code: "c", Syms: []api.Sym{sym("a", 4, 0)}}},
		{"a symbol behind the code", api.Object{Code: "c", Syms: []api.Sym{sym("a", 1, 1)}}},
		{"a symbol behind the data", api.Object{Code: "cc", Data: []int64{1}, Syms: []api.Sym{sym("a", 2, 1)}}},
		{"a symbol ahead of all", api.Object{Code: "c", Syms: []api.Sym{sym("a", 1, -1)}}},
		{"a symbol far away", api.Object{Code: "c", Syms: []api.Sym{sym("a", 3, math.MaxInt)}}},
		{"a relocation of no kind", api.Object{Code: "abcd", Relocs: []api.Reloc{rel(0, 0, "main", 0)}}},
		{"a relocation without a name", api.Object{Code: "abcd", Relocs: []api.Reloc{rel(0, 1, "", 0)}}},
		{"a relocation over the end", api.Object{Code: "abcd", Relocs: []api.Reloc{rel(1, 1, "main", 0)}}},
		{"a relocation ahead of all", api.Object{Code: "abcd", Relocs: []api.Reloc{rel(-1, 1, "main", 0)}}},
		{"relocations over one another", api.Object{Code: "abcdefgh", Relocs: []api.Reloc{rel(0, 1, "main", 0), rel(3, 1, "main", 0)}}},
		{"a jump with Add", api.Object{Code: "abcd", Relocs: []api.Reloc{rel(0, 1, "main", 8)}}},
		{"too great an Add", api.Object{Code: "abcd", Data: []int64{1}, Syms: []api.Sym{sym("x", 2, 0)}, Relocs: []api.Reloc{rel(0, 2, "x", 1<<31)}}},
	} {
		if objf.Check(c.o) == api.OK {
			t.Fatalf("%s: that object may be", c.name)
		}
		wantError(t, c.name, api.ErrArg, c.o)
		wantError(t, c.name+", behind a thread", api.ErrArg, thread(), c.o)
		wantError(t, c.name+", ahead of a thread", api.ErrArg, c.o, thread())
	}
}

func TestDuplicates(t *testing.T) {
	for _, kind := range []int{api.SymCode, api.SymData, api.SymThread} {
		o := api.Object{Code: "cc", Data: []int64{1, 2}, Syms: []api.Sym{sym("b", 1, 0), sym("main", kind, 1)}}
		wantError(t, "a name in two objects", api.ErrDuplicate, thread(), o)
		wantError(t, "a name in two objects", api.ErrDuplicate, o, thread())
		wantError(t, "a name in two objects, one between them", api.ErrDuplicate, o, api.Object{}, thread())
	}
	wantError(t, "an object twice", api.ErrDuplicate, thread(), thread())
	other := api.Object{Code: "c", Syms: []api.Sym{sym("Main", 1, 0), sym("main ", 1, 0), sym("mai", 1, 0), sym("main\x00", 1, 0)}}
	if _, e := link.Link(thread(), other); e != api.OK {
		t.Errorf("P7.1: names that are nearly the same: error %d", e)
	}
	asks := api.Object{Code: "abcd", Relocs: []api.Reloc{rel(0, 1, "main", 0)}}
	if _, e := link.Link(asks, thread(), asks); e != api.OK {
		t.Errorf("P7.1: two that ask for one name: error %d", e)
	}
}

// needs is an object with one relocation, and all is one that gives something of each kind.
func needs(kind int, name string) api.Object {
	return api.Object{Code: "1234", Relocs: []api.Reloc{rel(0, kind, name, 0)}}
}

func all() api.Object {
	return api.Object{Code: "cc", Data: []int64{1}, Syms: []api.Sym{sym("t", api.SymThread, 0), sym("f", api.SymCode, 1), sym("x", api.SymData, 0)}}
}

func TestNamesAndKinds(t *testing.T) {
	for _, c := range []struct {
		name string
		kind int
		of   string
		want api.Errno
	}{
		{"a jump to a thread", api.RelJump, "t", api.OK},
		{"a jump to code", api.RelJump, "f", api.OK},
		{"a jump to data", api.RelJump, "x", api.ErrType},
		{"a jump to nobody's name", api.RelJump, "y", api.ErrUndefined},
		{"the address of a thread", api.RelAddr, "t", api.ErrType},
		{"the address of code", api.RelAddr, "f", api.ErrType},
		{"the address of data", api.RelAddr, "x", api.OK},
		{"the address of nobody's name", api.RelAddr, "y", api.ErrUndefined},
		{"a longer name", api.RelAddr, "xx", api.ErrUndefined},
		{"a great letter", api.RelAddr, "X", api.ErrUndefined},
	} {
		for _, l := range [][]api.Object{{all(), needs(c.kind, c.of)}, {needs(c.kind, c.of), all()}, {{}, needs(c.kind, c.of), {}, all()}} {
			if im, e := link.Link(l...); e != c.want || e != api.OK && !same(im, api.Image{}) {
				t.Errorf("P7.1: %s: error %d, want %d", c.name, e, c.want)
			}
		}
		own := all()
		own.Code, own.Relocs = "cc1234", []api.Reloc{rel(2, c.kind, c.of, 0)}
		if _, e := link.Link(own); e != c.want {
			t.Errorf("P7.1: %s, in the same object: error %d, want %d", c.name, e, c.want)
		}
	}
	wantError(t, "nobody's name, and nothing else", api.ErrUndefined, needs(api.RelJump, "f"))
}

func TestWhichRelocationIsFirst(t *testing.T) {
	two := func(a api.Reloc, b api.Reloc) api.Object {
		a.At, b.At = 0, 4
		return api.Object{Code: "12345678", Relocs: []api.Reloc{a, b}}
	}
	nobody, wrong, right := rel(0, api.RelJump, "zz", 0), rel(0, api.RelJump, "x", 0), rel(0, api.RelJump, "f", 0)
	wantError(t, "undefined, then a wrong kind", api.ErrUndefined, all(), two(nobody, wrong))
	wantError(t, "a wrong kind, then undefined", api.ErrType, all(), two(wrong, nobody))
	wantError(t, "undefined in the last one", api.ErrUndefined, all(), two(right, right), two(right, nobody))
	wantError(t, "undefined in the object ahead", api.ErrUndefined, two(right, nobody), all(), two(wrong, right))
	wantError(t, "a wrong kind in the object ahead", api.ErrType, two(right, wrong), two(nobody, nobody), all())
	wantError(t, "both in two objects, the other way round", api.ErrUndefined, two(nobody, nobody), two(right, wrong), all())
}

func TestSizes(t *testing.T) {
	words := func(n int) api.Object { return api.Object{Data: make([]int64, n)} }
	for _, c := range []struct {
		name string
		l    []api.Object
		want api.Errno
	}{
		{"all code in one", []api.Object{{Code: code(65536), Syms: []api.Sym{sym("t", 3, 65535)}}}, api.OK},
		{"all code in two", []api.Object{{Code: code(65535)}, thread()}, api.OK},
		{"a byte more", []api.Object{{Code: code(65536)}, thread()}, api.ErrLarge},
		{"a byte more in three", []api.Object{thread(), {Code: code(32768)}, {Code: code(32768)}}, api.ErrLarge},
		{"much more code", []api.Object{thread(), {Code: code(65536)}, {Code: code(65536)}, {Code: code(65536)}}, api.ErrLarge},
		{"all words in one", []api.Object{thread(), words(4096)}, api.OK},
		{"all words in two", []api.Object{words(4000), thread(), words(96)}, api.OK},
		{"a word more", []api.Object{words(4096), thread(), words(1)}, api.ErrLarge},
		{"all symbols in one", []api.Object{symbols(999, "a"), thread()}, api.OK},
		{"all symbols in three", []api.Object{symbols(500, "a"), symbols(499, "b"), thread()}, api.OK},
		{"a symbol more", []api.Object{symbols(1000, "a"), thread()}, api.ErrLarge},
		{"a symbol more in three", []api.Object{symbols(500, "a"), symbols(500, "b"), thread()}, api.ErrLarge},
		{"no threads", []api.Object{symbols(3, "a"), words(3)}, api.ErrLarge},
		{"no threads, data and code", []api.Object{{Code: "c", Data: []int64{1}, Syms: []api.Sym{sym("a", 1, 0), sym("x", 2, 0)}}}, api.ErrLarge},
		{"four threads in one", []api.Object{threads(4, "a")}, api.OK},
		{"four threads in three", []api.Object{threads(1, "a"), threads(2, "b"), threads(1, "c")}, api.OK},
		{"five threads in one", []api.Object{threads(5, "a")}, api.ErrLarge},
		{"five threads in two", []api.Object{threads(4, "a"), threads(1, "b")}, api.ErrLarge},
		{"sixteen threads", []api.Object{threads(16, "a")}, api.ErrLarge},
		{"all of it", []api.Object{{Code: code(65535), Data: make([]int64, 4096), Syms: symbols(999, "s").Syms}, thread()}, api.OK},
	} {
		im, e := link.Link(c.l...)
		if e != c.want || e != api.OK && !same(im, api.Image{}) {
			t.Errorf("P7.1: %s: error %d, want %d", c.name, e, c.want)
		}
		if e == api.OK {
			if want := model(c.l); !same(im, want) {
				t.Errorf("P7.1: %s: another image", c.name)
			}
		}
	}
}

func TestRelocationsHaveNoLimitOfTheirOwn(t *testing.T) {
	many := func(n int) api.Object {
		o := api.Object{Code: code(4 * n)}
		for k := range n {
			o.Relocs = append(o.Relocs, rel(4*k, api.RelJump, "main", 0))
		}
		return o
	}
	l := []api.Object{many(8000), thread(), many(8000)}
	wantImage(t, "16000 relocations", model(l), l...)
}

func TestFarJumps(t *testing.T) {
	first := api.Object{Code: code(4), Syms: []api.Sym{sym("a", api.SymThread, 0)}, Relocs: []api.Reloc{rel(0, api.RelJump, "z", 0)}}
	last := api.Object{Code: code(4), Syms: []api.Sym{sym("z", api.SymCode, 3)}, Relocs: []api.Reloc{rel(0, api.RelJump, "a", 0)}}
	im, e := link.Link(first, api.Object{Code: code(65528)}, last)
	if e != api.OK || im.Code != four(65531)+code(65528)+four(-65536) {
		t.Errorf("P7.1: jumps over all code: error %d", e)
	}
}

// addressed links words ahead, a thread, and the address of the last of two words, with add.
func addressed(words int, add int64) (api.Image, api.Errno) {
	o := api.Object{Code: "c1234", Data: []int64{8, 9}, Syms: []api.Sym{sym("t", api.SymThread, 0), sym("x", api.SymData, 1)}, Relocs: []api.Reloc{rel(1, api.RelAddr, "x", add)}}
	return link.Link(api.Object{Data: make([]int64, words)}, o)
}

func TestAddresses(t *testing.T) {
	for _, words := range []int{0, 1, 77, 4094} {
		at := int64(1<<20 + 8*(words+1))
		for _, addr := range []int64{0, 1, 7, 1 << 20, at, at + 1, at - 8, 1<<31 - 1, 1<<31 - 2, 1<<31 - 8} {
			im, e := addressed(words, addr-at)
			if e != api.OK || im.Code != "c"+four(addr) {
				t.Errorf("P7.1: the address %d, %d words ahead: %q, error %d", addr, words, im.Code, e)
			}
		}
		for _, addr := range []int64{-1, -8, at - 1<<31, 1 << 31, 1<<31 + 1, at + 1<<31 - 1} {
			if im, e := addressed(words, addr-at); e != api.ErrOverflow || !same(im, api.Image{}) {
				t.Errorf("P7.1, R3: the address %d, %d words ahead: %q, error %d", addr, words, im.Code, e)
			}
		}
	}
}

func TestEachAddressIsAsked(t *testing.T) {
	for bad := range 3 {
		o := api.Object{Code: code(12), Data: []int64{1}, Syms: []api.Sym{sym("t", api.SymThread, 0), sym("x", api.SymData, 0)}}
		for k := range 3 {
			o.Relocs = append(o.Relocs, rel(4*k, api.RelAddr, "x", 0))
		}
		wantImage(t, "three addresses", model([]api.Object{o}), o)
		o.Relocs[bad].Add = -1<<20 - 1
		wantError(t, "a bad address", api.ErrOverflow, o)
		wantError(t, "a bad address behind an object", api.ErrOverflow, api.Object{Code: "c"}, o)
		wantError(t, "a bad address ahead of an object", api.ErrOverflow, o, api.Object{Code: "c"})
	}
}

// faults are objects that bring one error each to a list, in the order in which the chapter names the errors.
func faults() []struct {
	e api.Errno
	o api.Object
} {
	return []struct {
		e api.Errno
		o api.Object
	}{
		{api.ErrArg, api.Object{Code: "c", Syms: []api.Sym{sym("bad", 9, 0)}}},
		{api.ErrDuplicate, api.Object{Code: "c", Syms: []api.Sym{sym("f", api.SymCode, 0)}}},
		{api.ErrUndefined, needs(api.RelJump, "nobody")},
		{api.ErrLarge, threads(4, "more")},
		{api.ErrOverflow, api.Object{Code: "1234", Relocs: []api.Reloc{rel(0, api.RelAddr, "x", -1<<31)}}},
	}
}

func TestSeveralErrorsAtOnce(t *testing.T) {
	l := faults()
	for chosen := 1; chosen < 1<<len(l); chosen++ {
		want := api.OK
		objects := []api.Object{all()}
		for k, f := range l {
			if chosen>>k&1 == 0 {
				continue
			}
			if want == api.OK {
				want = f.e
			}
			objects = append(objects, f.o)
		}
		wantError(t, "faults "+strconv.FormatInt(int64(chosen), 2), want, objects...)
		slices.Reverse(objects)
		wantError(t, "faults the other way round "+strconv.FormatInt(int64(chosen), 2), want, objects...)
	}
	wrong := needs(api.RelAddr, "f")
	wantError(t, "a wrong kind and too many threads", api.ErrType, threads(4, "more"), all(), wrong)
	wantError(t, "a wrong kind and a bad address", api.ErrType, l[4].o, all(), wrong)
	wantError(t, "a wrong kind and a name twice", api.ErrDuplicate, wrong, all(), l[1].o)
	wantError(t, "a wrong kind and a bad object", api.ErrArg, wrong, all(), l[0].o)
	wantError(t, "too many objects, one of them bad", api.ErrArg, append(make([]api.Object, 16), l[0].o)...)
	wantError(t, "no thread and a bad address", api.ErrLarge, l[4].o, api.Object{Data: []int64{1}, Syms: []api.Sym{sym("x", api.SymData, 0)}})
	wantError(t, "too much code and a name twice", api.ErrDuplicate, api.Object{Code: code(65536)}, thread(), thread())
	wantError(t, "too much code and nobody's name", api.ErrUndefined, api.Object{Code: code(65536)}, thread(), needs(api.RelJump, "f"))
}

// model links objects that can be linked, in another way: each relocation looks for its symbol through all objects.
func model(l []api.Object) api.Image {
	var im api.Image
	for _, o := range l {
		im.Code += o.Code
		im.Data = append(im.Data, o.Data...)
	}
	code, words := 0, 0
	for _, o := range l {
		for _, s := range o.Syms {
			ahead := map[int]int{api.SymCode: code, api.SymThread: code, api.SymData: words}
			im.Syms = append(im.Syms, sym(s.Name, s.Kind, s.At+ahead[s.Kind]))
		}
		code += len(o.Code)
		words += len(o.Data)
	}
	bytes, code := []byte(im.Code), 0
	for _, o := range l {
		for _, r := range o.Relocs {
			s := im.Syms[slices.IndexFunc(im.Syms, func(s api.Sym) bool { return s.Name == r.Name })]
			n := int64(s.At) - int64(code+r.At) - 4
			if r.Kind == api.RelAddr {
				n = 1048576 + int64(s.At)*8 + r.Add
			}
			binary.LittleEndian.PutUint32(bytes[code+r.At:], uint32(n))
		}
		code += len(o.Code)
	}
	im.Code = string(bytes)
	return im
}

// randomObjects can be linked, in any order.
func randomObjects(r *rand.Rand) []api.Object {
	l := make([]api.Object, 1+r.Intn(6))
	var codes, words []string
	for k := range l {
		b := make([]byte, 1+r.Intn(60))
		r.Read(b)
		l[k].Code = string(b)
		for range r.Intn(9) {
			l[k].Data = append(l[k].Data, int64(r.Uint64()))
		}
		for n := range r.Intn(6) {
			name := strconv.Itoa(k) + "." + strconv.Itoa(n)
			if len(l[k].Data) > 0 && r.Intn(2) == 0 {
				l[k].Syms, words = append(l[k].Syms, sym(name, api.SymData, r.Intn(len(l[k].Data)))), append(words, name)
			} else {
				l[k].Syms, codes = append(l[k].Syms, sym(name, api.SymCode, r.Intn(len(b)))), append(codes, name)
			}
		}
	}
	for n := range 1 + r.Intn(4) {
		o, name := &l[r.Intn(len(l))], "t"+strconv.Itoa(n)
		o.Syms, codes = append(o.Syms, sym(name, api.SymThread, r.Intn(len(o.Code)))), append(codes, name)
	}
	for k := range l {
		for at := r.Intn(9); at+4 <= len(l[k].Code); at += 4 + r.Intn(9) {
			if len(words) > 0 && r.Intn(2) == 0 {
				l[k].Relocs = append(l[k].Relocs, rel(at, api.RelAddr, words[r.Intn(len(words))], int64(r.Intn(1<<21)-1<<20)))
			} else {
				l[k].Relocs = append(l[k].Relocs, rel(at, api.RelJump, codes[r.Intn(len(codes))], 0))
			}
		}
	}
	return l
}

func TestObjectsOfAllSorts(t *testing.T) {
	r := rand.New(rand.NewSource(71))
	for range 2000 {
		l := randomObjects(r)
		im, e := link.Link(l...)
		if e != api.OK || !same(im, model(l)) {
			t.Fatalf("P7.1: %v: %v, error %d; want %v", l, im, e, model(l))
		}
		standsAsItWas(t, l, im)
		r.Shuffle(len(l), func(i int, j int) { l[i], l[j] = l[j], l[i] })
		if im, e := link.Link(l...); e != api.OK || !same(im, model(l)) {
			t.Fatalf("P7.2: in another order: %v: error %d", l, e)
		}
	}
}

// standsAsItWas wants each object's code in the image, but for its relocations' places.
func standsAsItWas(t *testing.T, l []api.Object, im api.Image) {
	t.Helper()
	ahead := 0
	for _, o := range l {
		places := map[int]bool{}
		for _, r := range o.Relocs {
			for k := range 4 {
				places[r.At+k] = true
			}
		}
		for k := range len(o.Code) {
			if !places[k] && im.Code[ahead+k] != o.Code[k] {
				t.Fatalf("P7.2: %v: byte %d of the code is another one", o, k)
			}
		}
		ahead += len(o.Code)
	}
}

// spoil brings some faults in, or none, but no address that overflows.
func spoil(r *rand.Rand, l []api.Object) []api.Object {
	o := &l[r.Intn(len(l))]
	switch r.Intn(8) {
	case 0:
		o.Syms = append(o.Syms, sym("t0", api.SymCode, 0))
	case 1:
		o.Syms = append(o.Syms, sym("late", api.SymCode, len(o.Code)))
	case 2:
		for k := range o.Relocs {
			o.Relocs[k].Name = "nobody"
		}
	case 3:
		l = append(l, threads(4, "more"))
	case 4:
		l = append(l, api.Object{Code: code(65536)})
	case 5:
		l = append(l, needs(api.RelAddr, "t0"))
	}
	return l
}

func TestWhetherHangsOnNoOrder(t *testing.T) {
	r := rand.New(rand.NewSource(72))
	linked, refused := 0, 0
	for range 2000 {
		l := spoil(r, randomObjects(r))
		_, first := link.Link(l...)
		if first == api.OK {
			linked++
		} else {
			refused++
		}
		for range 3 {
			r.Shuffle(len(l), func(i int, j int) { l[i], l[j] = l[j], l[i] })
			if _, e := link.Link(l...); (e == api.OK) != (first == api.OK) {
				t.Fatalf("P7.2: %v: error %d in one order, %d in another", l, first, e)
			}
		}
	}
	if linked < 300 || refused < 300 {
		t.Errorf("P7.2: %d linked, %d refused: that tells little", linked, refused)
	}
}

func TestAddressesThatOverflowInOneOrder(t *testing.T) {
	a := api.Object{Code: "c1234", Data: []int64{8}, Syms: []api.Sym{sym("t", api.SymThread, 0), sym("x", api.SymData, 0)}, Relocs: []api.Reloc{rel(1, api.RelAddr, "x", 1<<31-1-1<<20)}}
	b := api.Object{Data: []int64{1}}
	wantImage(t, "the word first", model([]api.Object{a, b}), a, b)
	wantError(t, "another word first", api.ErrOverflow, b, a)
}

// renamed has another name wherever the first one stood.
func renamed(l []api.Object, from string, to string) []api.Object {
	var out []api.Object
	for _, o := range l {
		o.Syms, o.Relocs = slices.Clone(o.Syms), slices.Clone(o.Relocs)
		for k := range o.Syms {
			if o.Syms[k].Name == from {
				o.Syms[k].Name = to
			}
		}
		for k := range o.Relocs {
			if o.Relocs[k].Name == from {
				o.Relocs[k].Name = to
			}
		}
		out = append(out, o)
	}
	return out
}

func TestANameIsNothingButAName(t *testing.T) {
	r := rand.New(rand.NewSource(73))
	for range 1000 {
		l := spoil(r, randomObjects(r))
		im, e := link.Link(l...)
		from, to := "t0", []string{"\x00", "u", " ", code(28), "f\xffg"}[r.Intn(5)]
		other, again := link.Link(renamed(l, from, to)...)
		for k := range other.Syms {
			if other.Syms[k].Name == to {
				other.Syms[k].Name = from
			}
		}
		if e != again || !same(im, other) {
			t.Fatalf("P7.2: %v: error %d, and error %d with %q for %q", l, e, again, to, from)
		}
	}
}

// cloned shares no memory with l.
func cloned(l []api.Object) []api.Object {
	out := slices.Clone(l)
	for k, o := range l {
		out[k] = api.Object{Code: strings.Clone(o.Code), Data: slices.Clone(o.Data), Syms: slices.Clone(o.Syms), Relocs: slices.Clone(o.Relocs)}
	}
	return out
}

func sameObjects(a []api.Object, b []api.Object) bool {
	return slices.EqualFunc(a, b, func(x api.Object, y api.Object) bool {
		return x.Code == y.Code && slices.Equal(x.Data, y.Data) && slices.Equal(x.Syms, y.Syms) && slices.Equal(x.Relocs, y.Relocs)
	})
}

func TestWhatIsHandedInIsNotChanged(t *testing.T) {
	r := rand.New(rand.NewSource(74))
	for range 500 {
		l := spoil(r, randomObjects(r))
		before := cloned(l)
		im, e := link.Link(l...)
		if !sameObjects(l, before) {
			t.Fatalf("R5: %v became %v", before, l)
		}
		if im2, e2 := link.Link(before...); e2 != e || !same(im, im2) {
			t.Fatalf("R6: %v: error %d, then %d", before, e, e2)
		}
	}
}

// wipe writes over all of a list, its spare room too.
func wipe[T any](l []T, v T) {
	l = l[:cap(l)]
	for k := range l {
		l[k] = v
	}
}

func TestWhatIsAnsweredIsNew(t *testing.T) {
	one := api.Object{Code: "cc", Data: make([]int64, 2, 9), Syms: make([]api.Sym, 2, 9)}
	copy(one.Data, []int64{5, 6})
	copy(one.Syms, []api.Sym{sym("t", api.SymThread, 1), sym("x", api.SymData, 1)})
	two := api.Object{Code: "d", Data: make([]int64, 1, 9), Syms: []api.Sym{sym("f", api.SymCode, 0)}}
	for _, l := range [][]api.Object{{one}, {one, two}, {two, one}, {{}, one}, {one, {}}} {
		before := cloned(l)
		im, _ := link.Link(l...)
		again, _ := link.Link(l...)
		want := model(before)
		wipe(im.Data, -77)
		if !slices.Equal(im.Syms, want.Syms) {
			t.Errorf("R5: two lists of one answer share memory")
		}
		wipe(im.Syms, sym("wiped", 9, 9))
		if !sameObjects(l, before) || !same(again, want) {
			t.Errorf("R5: an answer shares memory with what was handed in, or with another answer")
		}
		for _, o := range l {
			if slices.Contains(o.Data[:cap(o.Data)], -77) || slices.Contains(o.Syms[:cap(o.Syms)], sym("wiped", 9, 9)) {
				t.Errorf("R5: an answer has its spare room where an argument has it")
			}
		}
		third, _ := link.Link(l...)
		for _, o := range l {
			for k := range o.Data {
				o.Data[k]++
			}
			for k := range o.Syms {
				o.Syms[k].At++
			}
		}
		if !same(third, want) {
			t.Errorf("R5: what was handed in is kept")
		}
		for k := range l {
			copy(l[k].Data, before[k].Data)
			copy(l[k].Syms, before[k].Syms)
		}
	}
}
