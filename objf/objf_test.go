package objf_test

import (
	"encoding/binary"
	"math"
	"math/rand"
	"reflect"
	"slices"
	"strconv"
	"strings"
	"testing"

	"cotter/api"
	"cotter/objf"
)

// The calls have the types that the chapter lists.
var (
	_ func(api.Object) api.Errno           = objf.Check
	_ func(api.Object) (string, api.Errno) = objf.Write
	_ func(string) (api.Object, api.Errno) = objf.Read
)

// num is a number as the form has it, and long one in eight bytes: both by the library, not by the layers below.
func num(u uint64) string {
	return string(binary.AppendUvarint(nil, u))
}

func long(n int64) string {
	return string(binary.LittleEndian.AppendUint64(nil, uint64(n)))
}

// part is a form's, that of several numbers and texts behind one another.
func part(l ...any) string {
	var b strings.Builder
	for _, p := range l {
		switch v := p.(type) {
		case int:
			b.WriteString(num(uint64(v)))
		case int64:
			b.WriteString(long(v))
		case string:
			b.WriteString(v)
		}
	}
	return b.String()
}

// same asks nothing about nil where a list is empty.
func same(a api.Object, b api.Object) bool {
	return a.Code == b.Code && slices.Equal(a.Data, b.Data) && slices.Equal(a.Syms, b.Syms) && slices.Equal(a.Relocs, b.Relocs)
}

func sym(name string, kind int, at int) api.Sym {
	return api.Sym{Name: name, Kind: kind, At: at}
}

func rel(at int, kind int, name string, add int64) api.Reloc {
	return api.Reloc{At: at, Kind: kind, Name: name, Add: add}
}

// manySyms have unlike names; manyRelocs stand side by side.
func manySyms(n int) []api.Sym {
	var l []api.Sym
	for k := range n {
		l = append(l, sym("s"+strconv.Itoa(k), api.SymCode, 0))
	}
	return l
}

func manyRelocs(n int) []api.Reloc {
	var l []api.Reloc
	for k := range n {
		l = append(l, rel(4*k, api.RelJump, "f", 0))
	}
	return l
}

func bytes(n int) string {
	return strings.Repeat("c", n)
}

var (
	name28 = strings.Repeat("n", 28)
	name29 = strings.Repeat("n", 29)
)

// sample is an object with something of all kinds.
func sample() api.Object {
	return api.Object{
		Code: "0123456789abcdef\x00\xff", Data: []int64{-1, 0, math.MinInt64, math.MaxInt64, 300},
		Syms:   []api.Sym{sym("run", api.SymThread, 17), sym("x", api.SymData, 4), sym("f", api.SymCode, 0), sym("\x00\xff", api.SymCode, 5)},
		Relocs: []api.Reloc{rel(1, api.RelAddr, "x", -1<<31), rel(5, api.RelJump, "g", 0), rel(10, api.RelAddr, name28, 1<<31-1), rel(14, api.RelJump, "g", 0)},
	}
}

func sampleForm() string {
	return part("COT1", 18, "0123456789abcdef\x00\xff", 5, int64(-1), int64(0), int64(math.MinInt64), int64(math.MaxInt64), int64(300),
		4, 3, "run", "\x03", 17, 1, "x", "\x02", 4, 1, "f", "\x01", 0, 2, "\x00\xff", "\x01", 5,
		4, 1, "\x02", 1, "x", int64(-1<<31), 5, "\x01", 1, "g", int64(0), 10, "\x02", 28, name28, int64(1<<31-1), 14, "\x01", 1, "g", int64(0))
}

func TestForms(t *testing.T) {
	for _, c := range []struct {
		name string
		o    api.Object
		form string
	}{
		{"the empty object", api.Object{}, "COT1\x00\x00\x00\x00"},
		{"empty lists", api.Object{Data: []int64{}, Syms: []api.Sym{}, Relocs: []api.Reloc{}}, "COT1\x00\x00\x00\x00"},
		{"code", api.Object{Code: "ab"}, "COT1\x02ab\x00\x00\x00"},
		{"code of 128 bytes", api.Object{Code: bytes(128)}, "COT1\x80\x01" + bytes(128) + "\x00\x00\x00"},
		{"data", api.Object{Data: []int64{1, -2}}, "COT1\x00\x02\x01\x00\x00\x00\x00\x00\x00\x00\xfe\xff\xff\xff\xff\xff\xff\xff\x00\x00"},
		{"a symbol", api.Object{Data: []int64{0, 0}, Syms: []api.Sym{sym("xy", api.SymData, 1)}}, part("COT1", 0, 2, int64(0), int64(0), "\x01\x02xy\x02\x01\x00")},
		{"a relocation", api.Object{Code: "abcdef", Relocs: []api.Reloc{rel(2, api.RelAddr, "g", -2)}}, "COT1\x06abcdef\x00\x00\x01\x02\x02\x01g\xfe\xff\xff\xff\xff\xff\xff\xff"},
		{"something of all kinds", sample(), sampleForm()},
	} {
		if e := objf.Check(c.o); e != api.OK {
			t.Errorf("P6.1: %s: Check: error %d", c.name, e)
		}
		if s, e := objf.Write(c.o); s != c.form || e != api.OK {
			t.Errorf("P6.1: %s: Write: %q, error %d; want %q", c.name, s, e, c.form)
		}
		if o, e := objf.Read(c.form); !same(o, c.o) || e != api.OK {
			t.Errorf("P6.2: %s: Read: %v, error %d", c.name, o, e)
		}
	}
}

func TestObjectsThatMayBe(t *testing.T) {
	for _, c := range []struct {
		name string
		o    api.Object
	}{
		{"all code", api.Object{Code: bytes(65536)}},
		{"all data", api.Object{Data: make([]int64, 4096)}},
		{"all symbols", api.Object{Code: "c", Syms: manySyms(1000)}},
		{"all relocations", api.Object{Code: bytes(32000), Relocs: manyRelocs(8000)}},
		{"all of it", api.Object{Code: bytes(65536), Data: make([]int64, 4096), Syms: manySyms(1000), Relocs: manyRelocs(8000)}},
		{"names of 1 and 28 bytes", api.Object{Code: "c", Syms: []api.Sym{sym("a", 1, 0), sym(name28, 1, 0)}}},
		{"names of any bytes", api.Object{Code: "c", Syms: []api.Sym{sym("\x00", 1, 0), sym(" ", 1, 0), sym("\xff", 1, 0), sym("A", 1, 0), sym("a", 1, 0)}}},
		{"symbols in any order", api.Object{Code: "abc", Data: []int64{1, 2}, Syms: []api.Sym{sym("z", 1, 2), sym("y", 2, 1), sym("x", 3, 0), sym("w", 2, 0), sym("v", 1, 1)}}},
		{"symbols at one place", api.Object{Code: "a", Data: []int64{1}, Syms: []api.Sym{sym("a", 1, 0), sym("b", 3, 0), sym("c", 1, 0), sym("d", 2, 0), sym("e", 2, 0)}}},
		{"symbols at the last places", api.Object{Code: bytes(65536), Data: make([]int64, 4096), Syms: []api.Sym{sym("a", 1, 65535), sym("b", 2, 4095), sym("c", 3, 65535)}}},
		{"five threads", api.Object{Code: "c", Syms: []api.Sym{sym("a", 3, 0), sym("b", 3, 0), sym("c", 3, 0), sym("d", 3, 0), sym("e", 3, 0)}}},
		{"a data symbol behind the code's end", api.Object{Code: "c", Data: []int64{1, 2}, Syms: []api.Sym{sym("a", 2, 1)}}},
		{"a code symbol behind the data's end", api.Object{Code: "cd", Data: []int64{1}, Syms: []api.Sym{sym("a", 1, 1), sym("b", 3, 1)}}},
		{"a relocation at the code's end", api.Object{Code: "abcde", Relocs: []api.Reloc{rel(1, 1, "a", 0)}}},
		{"a relocation that is all code", api.Object{Code: "abcd", Relocs: []api.Reloc{rel(0, 2, "a", 1)}}},
		{"relocations side by side, and apart", api.Object{Code: bytes(20), Relocs: []api.Reloc{rel(3, 1, "a", 0), rel(7, 1, "a", 0), rel(12, 2, "a", 5), rel(16, 1, "b", 0)}}},
		{"a relocation at the last place", api.Object{Code: bytes(65536), Relocs: []api.Reloc{rel(65532, 1, "a", 0)}}},
		{"relocations' names of 1 and 28 bytes", api.Object{Code: bytes(8), Relocs: []api.Reloc{rel(0, 1, "a", 0), rel(4, 2, name28, 0)}}},
		{"the least and the most Add", api.Object{Code: bytes(8), Relocs: []api.Reloc{rel(0, 2, "a", -1<<31), rel(4, 2, "a", 1<<31-1)}}},
		{"a relocation that names a symbol", api.Object{Code: bytes(8), Syms: []api.Sym{sym("a", 1, 0)}, Relocs: []api.Reloc{rel(0, 2, "a", 0)}}},
	} {
		if e := objf.Check(c.o); e != api.OK {
			t.Errorf("P6.1: %s: Check: error %d", c.name, e)
		}
		s, e := objf.Write(c.o)
		if s != formOf(c.o) || e != api.OK {
			t.Errorf("P6.1: %s: Write: error %d", c.name, e)
		}
		if o, e := objf.Read(formOf(c.o)); !same(o, c.o) || e != api.OK {
			t.Errorf("P6.2, P6.3: %s: Read: error %d", c.name, e)
		}
	}
}

// formOf is the form of any object, of one that may not be, too, as far as its fields have one.
func formOf(o api.Object) string {
	var b strings.Builder
	b.WriteString(part("COT1", len(o.Code), o.Code, len(o.Data)))
	for _, n := range o.Data {
		b.WriteString(long(n))
	}
	b.WriteString(part(len(o.Syms)))
	for _, s := range o.Syms {
		b.WriteString(part(len(s.Name), s.Name, string([]byte{byte(s.Kind)}), s.At))
	}
	b.WriteString(part(len(o.Relocs)))
	for _, r := range o.Relocs {
		b.WriteString(part(r.At, string([]byte{byte(r.Kind)}), len(r.Name), r.Name, r.Add))
	}
	return b.String()
}

func TestObjectsThatMayNotBe(t *testing.T) {
	for _, c := range []struct {
		name string
		o    api.Object
	}{
		{"too much code", api.Object{Code: bytes(65537)}},
		{"too much data", api.Object{Data: make([]int64, 4097)}},
		{"too many symbols", api.Object{Code: "c", Syms: manySyms(1001)}},
		{"too many relocations", api.Object{Code: bytes(32004), Relocs: manyRelocs(8001)}},
		{"a symbol without a name", api.Object{Code: "c", Syms: []api.Sym{sym("", 1, 0)}}},
		{"a symbol's name of 29 bytes", api.Object{Code: "c", Syms: []api.Sym{sym(name29, 1, 0)}}},
		{"a name twice", api.Object{Code: "c", Syms: []api.Sym{sym("a", 1, 0), sym("a", 1, 0)}}},
		{"a name twice, of two kinds", api.Object{Code: "c", Data: []int64{1}, Syms: []api.Sym{sym("a", 1, 0), sym("b", 1, 0), sym("a", 2, 0)}}},
		{"kind 0", api.Object{Code: "c", Data: []int64{1}, Syms: []api.Sym{sym("a", 0, 0)}}},
		{"kind 4", api.Object{Code: "c", Data: []int64{1}, Syms: []api.Sym{sym("a", 4, 0)}}},
		{"kind -1", api.Object{Code: "c", Data: []int64{1}, Syms: []api.Sym{sym("a", -1, 0)}}},
		{"kind 255", api.Object{Code: "c", Data: []int64{1}, Syms: []api.Sym{sym("a", 255, 0)}}},
		{"a code symbol at -1", api.Object{Code: "c", Data: []int64{1}, Syms: []api.Sym{sym("a", 1, -1)}}},
		{"a data symbol at -1", api.Object{Code: "c", Data: []int64{1}, Syms: []api.Sym{sym("a", 2, -1)}}},
		{"a thread at -1", api.Object{Code: "c", Data: []int64{1}, Syms: []api.Sym{sym("a", 3, -1)}}},
		{"a code symbol at the code's end", api.Object{Code: "c", Data: []int64{1, 2}, Syms: []api.Sym{sym("a", 1, 1)}}},
		{"a thread at the code's end", api.Object{Code: "c", Data: []int64{1, 2}, Syms: []api.Sym{sym("a", 3, 1)}}},
		{"a data symbol at the data's end", api.Object{Code: "cd", Data: []int64{1}, Syms: []api.Sym{sym("a", 2, 1)}}},
		{"a code symbol without code", api.Object{Data: []int64{1}, Syms: []api.Sym{sym("a", 1, 0)}}},
		{"a thread without code", api.Object{Data: []int64{1}, Syms: []api.Sym{sym("a", 3, 0)}}},
		{"a data symbol without data", api.Object{Code: "c", Syms: []api.Sym{sym("a", 2, 0)}}},
		{"a code symbol at all code's end", api.Object{Code: bytes(65536), Syms: []api.Sym{sym("a", 1, 65536)}}},
		{"a data symbol at all data's end", api.Object{Code: bytes(65536), Data: make([]int64, 4096), Syms: []api.Sym{sym("a", 2, 4096)}}},
		{"a symbol at the least place", api.Object{Code: "c", Syms: []api.Sym{sym("a", 1, math.MinInt)}}},
		{"a symbol at the greatest place", api.Object{Code: "c", Syms: []api.Sym{sym("a", 1, math.MaxInt)}}},
		{"the last symbol", api.Object{Code: "c", Syms: append(manySyms(999), sym("z", 1, 1))}},
		{"a relocation without a name", api.Object{Code: bytes(8), Relocs: []api.Reloc{rel(0, 1, "", 0)}}},
		{"a relocation's name of 29 bytes", api.Object{Code: bytes(8), Relocs: []api.Reloc{rel(0, 1, name29, 0)}}},
		{"a relocation of kind 0", api.Object{Code: bytes(8), Relocs: []api.Reloc{rel(0, 0, "a", 0)}}},
		{"a relocation of kind 3", api.Object{Code: bytes(8), Relocs: []api.Reloc{rel(0, 3, "a", 0)}}},
		{"a relocation of kind -1", api.Object{Code: bytes(8), Relocs: []api.Reloc{rel(0, -1, "a", 0)}}},
		{"a jump with Add 1", api.Object{Code: bytes(8), Relocs: []api.Reloc{rel(0, 1, "a", 1)}}},
		{"a jump with Add -1", api.Object{Code: bytes(8), Relocs: []api.Reloc{rel(0, 1, "a", -1)}}},
		{"an address with too much Add", api.Object{Code: bytes(8), Relocs: []api.Reloc{rel(0, 2, "a", 1<<31)}}},
		{"an address with too little Add", api.Object{Code: bytes(8), Relocs: []api.Reloc{rel(0, 2, "a", -1<<31-1)}}},
		{"an address with the greatest Add", api.Object{Code: bytes(8), Relocs: []api.Reloc{rel(0, 2, "a", math.MaxInt64)}}},
		{"an address with the least Add", api.Object{Code: bytes(8), Relocs: []api.Reloc{rel(0, 2, "a", math.MinInt64)}}},
		{"a relocation at -1", api.Object{Code: bytes(8), Relocs: []api.Reloc{rel(-1, 1, "a", 0)}}},
		{"a relocation at -4", api.Object{Code: bytes(8), Relocs: []api.Reloc{rel(-4, 1, "a", 0)}}},
		{"a relocation over the code's end", api.Object{Code: bytes(8), Relocs: []api.Reloc{rel(5, 1, "a", 0)}}},
		{"a relocation at the code's end", api.Object{Code: bytes(8), Relocs: []api.Reloc{rel(8, 1, "a", 0)}}},
		{"a relocation over all code's end", api.Object{Code: bytes(65536), Relocs: []api.Reloc{rel(65533, 1, "a", 0)}}},
		{"a relocation without code", api.Object{Relocs: []api.Reloc{rel(0, 1, "a", 0)}}},
		{"a relocation in three bytes", api.Object{Code: "abc", Relocs: []api.Reloc{rel(0, 1, "a", 0)}}},
		{"a relocation at the least place", api.Object{Code: bytes(8), Relocs: []api.Reloc{rel(math.MinInt, 1, "a", 0)}}},
		{"a relocation at the greatest place", api.Object{Code: bytes(8), Relocs: []api.Reloc{rel(math.MaxInt, 1, "a", 0)}}},
		{"relocations three bytes apart", api.Object{Code: bytes(8), Relocs: []api.Reloc{rel(0, 1, "a", 0), rel(3, 1, "b", 0)}}},
		{"relocations at one place", api.Object{Code: bytes(8), Relocs: []api.Reloc{rel(2, 1, "a", 0), rel(2, 1, "a", 0)}}},
		{"relocations out of order", api.Object{Code: bytes(8), Relocs: []api.Reloc{rel(4, 1, "a", 0), rel(0, 1, "b", 0)}}},
		{"a third relocation over the second one", api.Object{Code: bytes(20), Relocs: []api.Reloc{rel(0, 1, "a", 0), rel(8, 1, "a", 0), rel(11, 1, "a", 0)}}},
		{"a relocation ahead of the first one", api.Object{Code: bytes(20), Relocs: []api.Reloc{rel(4, 1, "a", 0), rel(8, 1, "a", 0), rel(0, 1, "a", 0)}}},
		{"a second relocation at the greatest place", api.Object{Code: bytes(8), Relocs: []api.Reloc{rel(0, 1, "a", 0), rel(math.MaxInt, 1, "a", 0)}}},
	} {
		if e := objf.Check(c.o); e != api.ErrArg {
			t.Errorf("P6.1: %s: Check: error %d", c.name, e)
		}
		if s, e := objf.Write(c.o); s != "" || e != api.ErrArg {
			t.Errorf("P6.1, R3: %s: Write: %d bytes, error %d", c.name, len(s), e)
		}
		wantNone(t, c.name, formOf(c.o))
	}
	for _, kind := range []int{256 + api.SymCode, 257 + api.SymData, 1 << 32, -255, math.MinInt, math.MaxInt} {
		if e := objf.Check(api.Object{Code: "c", Data: []int64{1}, Syms: []api.Sym{sym("a", kind, 0)}}); e != api.ErrArg {
			t.Errorf("P6.1: a symbol of kind %d: error %d", kind, e)
		}
		if e := objf.Check(api.Object{Code: bytes(4), Relocs: []api.Reloc{rel(0, kind, "a", 0)}}); e != api.ErrArg {
			t.Errorf("P6.1: a relocation of kind %d: error %d", kind, e)
		}
	}
}

// wantNone wants a text to be no object's form.
func wantNone(t *testing.T, name string, s string) {
	t.Helper()
	if o, e := objf.Read(s); !same(o, api.Object{}) || e != api.ErrObject {
		t.Errorf("P6.2, R3: %s: Read: %v, error %d", name, o, e)
	}
}

func TestTextsThatAreNoForms(t *testing.T) {
	tail := "\x00\x00\x00"
	huge := []uint64{65537, 1 << 31, 1 << 32, 1<<32 + 1, 1 << 63, 1<<63 - 1, math.MaxUint64}
	for _, c := range []struct {
		name string
		s    string
	}{
		{"nothing", ""},
		{"the mark alone", "COT1"},
		{"half a mark", "CO"},
		{"another mark", "COT2\x00\x00\x00\x00"},
		{"an image's mark", "IMG1\x00\x00\x00\x00"},
		{"a small mark", "cot1\x00\x00\x00\x00"},
		{"no mark", "\x00\x00\x00\x00"},
		{"something ahead", " COT1\x00\x00\x00\x00"},
		{"no relocations", "COT1\x00\x00\x00"},
		{"one more byte", "COT1\x00\x00\x00\x00\x00"},
		{"the form twice", "COT1\x00\x00\x00\x00COT1\x00\x00\x00\x00"},
		{"a number in more bytes, of code", "COT1\x80\x00" + tail},
		{"a number in more bytes, of one byte of code", "COT1\x81\x00c" + tail},
		{"a number in more bytes, of data", "COT1\x00\x80\x00\x00\x00"},
		{"a number in more bytes, of symbols", "COT1\x00\x00\x80\x00\x00"},
		{"a number in more bytes, of relocations", "COT1\x00\x00\x00\x80\x00"},
		{"a number in more bytes, of a symbol's name", "COT1\x01c\x00\x01\x81\x00a\x01\x00\x00"},
		{"a number in more bytes, of a symbol's place", "COT1\x01c\x00\x01\x01a\x01\x80\x00\x00"},
		{"a number in more bytes, of a relocation's place", part("COT1", 4, "abcd", 0, 0, 1, "\x80\x00", "\x01", 1, "a", int64(0))},
		{"a number in more bytes, of a relocation's name", part("COT1", 4, "abcd", 0, 0, 1, 0, "\x01", "\x81\x00", "a", int64(0))},
		{"a number that does not end", "COT1\x80\x80\x80"},
		{"a number of 2^64", "COT1\x80\x80\x80\x80\x80\x80\x80\x80\x80\x02" + tail},
		{"less code than it says", "COT1\x05abc" + tail[:1]},
		{"half a word", "COT1\x00\x01\x00\x00\x00\x00"},
	} {
		wantNone(t, c.name, c.s)
	}
	for _, u := range huge {
		wantNone(t, "so many words, and none", part("COT1", 0, num(u), 0, 0))
		wantNone(t, "so many symbols, and none", part("COT1", 0, 0, num(u), 0))
		wantNone(t, "so many relocations, and none", part("COT1", 0, 0, 0, num(u)))
		wantNone(t, "so much code", part("COT1", num(u), bytes(70000), tail))
		wantNone(t, "so many words", part("COT1", 0, num(u), bytes(8*70000), tail))
		wantNone(t, "so many symbols", part("COT1", 1, "c", 0, num(u), strings.Repeat("\x01a\x01\x00", 70000), 0))
		wantNone(t, "so many relocations", part("COT1", 4, "abcd", 0, 0, num(u), strings.Repeat(part(0, "\x01", 1, "a", int64(0)), 70000)))
		wantNone(t, "so long a name", part("COT1", 1, "c", 0, 1, num(u), bytes(70000), "\x01", 0, 0))
		wantNone(t, "so long a relocation's name", part("COT1", 4, "abcd", 0, 0, 1, 0, "\x01", num(u), bytes(70000), int64(0)))
		for _, kind := range []string{"\x01", "\x02", "\x03"} {
			wantNone(t, "a symbol at such a place", part("COT1", 1, "c", 1, int64(0), 1, 1, "a", kind, num(u), 0))
			wantNone(t, "a relocation at such a place", part("COT1", 4, "abcd", 0, 0, 1, num(u), kind, 1, "a", int64(0)))
		}
	}
}

func TestFormsCutShortAndWithMore(t *testing.T) {
	s := sampleForm()
	for n := range len(s) {
		wantNone(t, "cut to "+strconv.Itoa(n), s[:n])
		if n > 0 {
			wantNone(t, "without its first "+strconv.Itoa(n), s[n:])
		}
	}
	for b := range 256 {
		wantNone(t, "one more byte", s+string([]byte{byte(b)}))
	}
}

// turnsBack wants a text that is a form to be the very form of what is read.
func turnsBack(t *testing.T, s string) bool {
	t.Helper()
	o, e := objf.Read(s)
	if e != api.OK {
		if e != api.ErrObject || !same(o, api.Object{}) {
			t.Fatalf("P6.2, R3: %q: %v, error %d", s, o, e)
		}
		return false
	}
	if again, e := objf.Write(o); again != s || e != api.OK || objf.Check(o) != api.OK {
		t.Fatalf("P6.3: %q: %q, error %d", s, again, e)
	}
	return true
}

func TestWriteTurnsReadBack(t *testing.T) {
	s := sampleForm()
	forms := 0
	for at := range len(s) {
		for b := range 256 {
			turned := s[:at] + string([]byte{byte(b)}) + s[at+1:]
			if turnsBack(t, turned) {
				forms++
			}
		}
		turnsBack(t, s[:at]+s[at+1:])
		turnsBack(t, s[:at]+"\x00"+s[at:])
		turnsBack(t, s[:at]+"\x80"+s[at:])
	}
	if forms < len(s) {
		t.Errorf("P6.2: %d texts alone are forms", forms)
	}
	r := rand.New(rand.NewSource(6))
	for range 20000 {
		b := []byte("COT1")
		for range r.Intn(24) {
			b = append(b, byte(r.Intn(5)))
		}
		turnsBack(t, string(b))
	}
}

func randomName(r *rand.Rand) string {
	b := make([]byte, 1+r.Intn(28))
	r.Read(b)
	return string(b)
}

func randomObject(r *rand.Rand) api.Object {
	b := make([]byte, 1+r.Intn(400))
	r.Read(b)
	o := api.Object{Code: string(b)}
	for range 1 + r.Intn(20) {
		o.Data = append(o.Data, int64(r.Uint64())>>r.Intn(64))
	}
	for k := range r.Intn(20) {
		kind, room := 1+r.Intn(3), len(o.Code)
		if kind == api.SymData {
			room = len(o.Data)
		}
		o.Syms = append(o.Syms, sym(strconv.Itoa(k)+randomName(r)[:1], kind, r.Intn(room)))
	}
	for at := r.Intn(9); at+4 <= len(o.Code); at += 4 + r.Intn(40) {
		kind, add := 1+r.Intn(2), int64(0)
		if kind == api.RelAddr {
			add = int64(int32(r.Uint32()))
		}
		o.Relocs = append(o.Relocs, rel(at, kind, randomName(r), add))
	}
	return o
}

func TestReadTurnsWriteBack(t *testing.T) {
	r := rand.New(rand.NewSource(7))
	for range 3000 {
		o := randomObject(r)
		s, e := objf.Write(o)
		if e != api.OK || s != formOf(o) || objf.Check(o) != api.OK {
			t.Fatalf("P6.1: %v: %q, error %d", o, s, e)
		}
		if p, e := objf.Read(s); e != api.OK || !same(p, o) {
			t.Fatalf("P6.3: %v: %v, error %d", o, p, e)
		}
	}
}

func TestNothingIsSharedOrChanged(t *testing.T) {
	o := sample()
	o.Data = append(make([]int64, 0, 9), o.Data...)
	spare := o.Data[:9]
	objf.Check(o)
	s, _ := objf.Write(o)
	if !reflect.DeepEqual(o, sample()) || !slices.Equal(spare[5:], make([]int64, 4)) {
		t.Errorf("R5: what was handed in is changed: %v", o)
	}
	o.Data[0], o.Syms[0], o.Relocs[0] = 5, api.Sym{}, api.Reloc{}
	if s != sampleForm() {
		t.Error("R5: what was answered is changed")
	}
	a, _ := objf.Read(s)
	b, _ := objf.Read(s)
	a.Data[0], a.Syms[0], a.Relocs[0] = 5, api.Sym{}, api.Reloc{}
	_ = append(a.Data, 6)
	_ = append(a.Syms, api.Sym{Kind: 6})
	_ = append(a.Relocs, api.Reloc{Kind: 6})
	if !same(b, sample()) {
		t.Errorf("R5: two answers share memory: %v", b)
	}
	if c, e := objf.Read(s); !same(c, sample()) || e != api.OK {
		t.Errorf("R6: asked again: %v, error %d", c, e)
	}
	if again, e := objf.Write(b); again != s || e != api.OK || objf.Check(b) != api.OK {
		t.Errorf("R6: asked again: %q, error %d", again, e)
	}
}
