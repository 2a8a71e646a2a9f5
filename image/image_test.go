package image_test

import (
	"encoding/binary"
	"math"
	"math/rand"
	"slices"
	"strconv"
	"strings"
	"testing"

	"cotter/api"
	"cotter/image"
	"cotter/ins"
	"cotter/objf"
)

// The calls have the types that the chapter lists.
var (
	_ func(api.Image) api.Errno           = image.Check
	_ func(api.Image) (string, api.Errno) = image.Write
	_ func(string) (api.Image, api.Errno) = image.Read
	_ func(api.Image) []string            = image.Threads
)

func sym(name string, kind int, at int) api.Sym {
	return api.Sym{Name: name, Kind: kind, At: at}
}

// num is a number as the form has it, by the library, not by the layers below.
func num(u uint64) string {
	return string(binary.AppendUvarint(nil, u))
}

// formOf is the form of any image, of one that may not be, too, as far as its fields have one.
func formOf(im api.Image) string {
	var b strings.Builder
	b.WriteString("IMG1" + num(uint64(len(im.Code))) + im.Code + num(uint64(len(im.Data))))
	for _, n := range im.Data {
		b.Write(binary.LittleEndian.AppendUint64(nil, uint64(n)))
	}
	b.WriteString(num(uint64(len(im.Syms))))
	for _, s := range im.Syms {
		b.WriteString(num(uint64(len(s.Name))) + s.Name + string([]byte{byte(s.Kind)}) + num(uint64(s.At)))
	}
	return b.String()
}

func same(a api.Image, b api.Image) bool {
	return a.Code == b.Code && slices.Equal(a.Data, b.Data) && slices.Equal(a.Syms, b.Syms)
}

// of is an image of instructions, with a thread at 0.
func of(t *testing.T, words int, l ...api.Ins) api.Image {
	t.Helper()
	im := api.Image{Data: make([]int64, words), Syms: []api.Sym{sym("t", api.SymThread, 0)}}
	for _, i := range l {
		s, e := ins.Encode(i)
		if e != api.OK {
			t.Fatalf("%v is no instruction", i)
		}
		im.Code += s
	}
	return im
}

// halts is an image of so many HALTs, with those symbols.
func halts(n int, l ...api.Sym) api.Image {
	return api.Image{Code: strings.Repeat("\x20", n), Syms: l}
}

func wantGood(t *testing.T, name string, im api.Image) {
	t.Helper()
	if e := image.Check(im); e != api.OK {
		t.Errorf("P8.1: %s: Check: error %d", name, e)
	}
	s, e := image.Write(im)
	if e != api.OK || s != formOf(im) {
		t.Errorf("P8.1: %s: Write: %q, error %d; want %q", name, s, e, formOf(im))
	}
	if back, e := image.Read(formOf(im)); e != api.OK || !same(back, im) {
		t.Errorf("P8.1, P8.2: %s: Read: %v, error %d", name, back, e)
	}
}

func wantBad(t *testing.T, name string, im api.Image) {
	t.Helper()
	if e := image.Check(im); e != api.ErrObject {
		t.Errorf("P8.1: %s: Check: error %d", name, e)
	}
	if s, e := image.Write(im); e != api.ErrArg || s != "" {
		t.Errorf("P8.1, R3: %s: Write: %d bytes, error %d", name, len(s), e)
	}
	wantNone(t, name, formOf(im))
}

// wantNone wants a text to be no image's form.
func wantNone(t *testing.T, name string, s string) {
	t.Helper()
	if im, e := image.Read(s); e != api.ErrObject || !same(im, api.Image{}) {
		t.Errorf("P8.1, R3: %s: Read: %v, error %d", name, im, e)
	}
}

func want(t *testing.T, name string, im api.Image, good bool) {
	t.Helper()
	if good {
		wantGood(t, name, im)
	} else {
		wantBad(t, name, im)
	}
}

func TestForms(t *testing.T) {
	for _, c := range []struct {
		name string
		im   api.Image
		form string
	}{
		{"one HALT", halts(1, sym("t", 3, 0)), "IMG1\x01\x20\x00\x01\x01t\x03\x00"},
		{"empty data", api.Image{Code: "\x20", Data: []int64{}, Syms: []api.Sym{sym("t", 3, 0)}}, "IMG1\x01\x20\x00\x01\x01t\x03\x00"},
		{"words and more symbols", api.Image{Code: "\x18\x20", Data: []int64{1, -2}, Syms: []api.Sym{sym("xy", 2, 1), sym("f", 1, 0), sym("\x00", 3, 1)}},
			"IMG1\x02\x18\x20\x02\x01\x00\x00\x00\x00\x00\x00\x00\xfe\xff\xff\xff\xff\xff\xff\xff\x03\x02xy\x02\x01\x01f\x01\x00\x01\x00\x03\x01"},
		{"code of 200 bytes", halts(200, sym("t", 3, 199)), "IMG1\xc8\x01" + strings.Repeat("\x20", 200) + "\x00\x01\x01t\x03\xc7\x01"},
	} {
		wantGood(t, c.name, c.im)
		if s, e := image.Write(c.im); s != c.form || e != api.OK {
			t.Errorf("P8.1: %s: Write: %q, error %d; want %q", c.name, s, e, c.form)
		}
		if im, e := image.Read(c.form); !same(im, c.im) || e != api.OK {
			t.Errorf("P8.1: %s: Read: %v, error %d", c.name, im, e)
		}
	}
}

// named has so many symbols, the first of which is a thread.
func named(n int) []api.Sym {
	l := []api.Sym{sym("t", api.SymThread, 0)}
	for k := 1; k < n; k++ {
		l = append(l, sym("s"+strconv.Itoa(k), api.SymCode, 0))
	}
	return l
}

func TestSizesAndSymbols(t *testing.T) {
	th := sym("t", api.SymThread, 0)
	words := func(n int, l ...api.Sym) api.Image {
		return api.Image{Code: "\x20", Data: make([]int64, n), Syms: append([]api.Sym{th}, l...)}
	}
	for _, c := range []struct {
		name string
		im   api.Image
		good bool
	}{
		{"all code", halts(65536, sym("t", 3, 65535)), true},
		{"too much code", halts(65537, th), false},
		{"all data", words(4096, sym("x", 2, 4095)), true},
		{"too much data", words(4097), false},
		{"all symbols", halts(1, named(1000)...), true},
		{"too many symbols", halts(1, named(1001)...), false},
		{"names of 1 and 28 bytes", halts(1, th, sym(strings.Repeat("n", 28), 1, 0)), true},
		{"a name of 29 bytes", halts(1, th, sym(strings.Repeat("n", 29), 1, 0)), false},
		{"no name", halts(1, th, sym("", 1, 0)), false},
		{"names of any bytes", halts(1, th, sym("\x00", 1, 0), sym("\xff", 1, 0), sym("T", 1, 0), sym(" t", 1, 0)), true},
		{"a name twice", halts(1, th, sym("t", 1, 0)), false},
		{"a name twice, of data", words(1, sym("x", 2, 0), sym("x", 2, 0)), false},
		{"kind 0", words(1, sym("x", 0, 0)), false},
		{"kind 4", words(1, sym("x", 4, 0)), false},
		{"kind -1", words(1, sym("x", -1, 0)), false},
		{"a word's symbol at the end", words(3, sym("x", 2, 2)), true},
		{"a word's symbol behind the end", words(3, sym("x", 2, 3)), false},
		{"a word's symbol at -1", words(3, sym("x", 2, -1)), false},
		{"a word's symbol without words", words(0, sym("x", 2, 0)), false},
		{"a word's symbol at no start of the code", api.Image{Code: "\x02\x12\x20", Data: []int64{1, 2}, Syms: []api.Sym{th, sym("x", 2, 1)}}, true},
		{"a word's symbol behind the code", words(9, sym("x", 2, 8)), true},
		{"code at the end", halts(3, th, sym("f", 1, 2)), true},
		{"code behind the end", halts(3, th, sym("f", 1, 3)), false},
		{"code at -1", halts(3, th, sym("f", 1, -1)), false},
		{"code far away", halts(3, th, sym("f", 1, math.MaxInt)), false},
		{"code at the least place", halts(3, th, sym("f", 1, math.MinInt)), false},
		{"a thread behind the end", halts(1, sym("t", 3, 1)), false},
		{"a thread at -1", halts(1, sym("t", 3, -1)), false},
		{"two symbols at one place", halts(1, th, sym("f", 1, 0), sym("u", 3, 0)), true},
		{"nothing at all", api.Image{}, false},
		{"a thread without code", api.Image{Syms: []api.Sym{th}}, false},
		{"no symbols", halts(1), false},
		{"no threads", halts(1, sym("f", 1, 0)), false},
		{"no threads, data and code", api.Image{Code: "\x20", Data: []int64{1}, Syms: []api.Sym{sym("f", 1, 0), sym("x", 2, 0)}}, false},
		{"four threads", halts(4, th, sym("f", 1, 0), sym("u", 3, 3), sym("v", 3, 1), sym("w", 3, 1)), true},
		{"five threads", halts(4, th, sym("u", 3, 3), sym("v", 3, 1), sym("w", 3, 1), sym("x", 3, 1)), false},
	} {
		want(t, c.name, c.im, c.good)
	}
	for _, kind := range []int{256 + api.SymCode, 256 + api.SymThread, 1 << 32, math.MinInt, math.MaxInt} {
		if e := image.Check(words(1, sym("x", kind, 0))); e != api.ErrObject {
			t.Errorf("P8.1: a symbol of kind %d: error %d", kind, e)
		}
	}
}

func TestCodeIsInstructions(t *testing.T) {
	th := []api.Sym{sym("t", api.SymThread, 0)}
	for _, c := range []struct {
		name string
		code string
		good bool
	}{
		{"one instruction of each form", "\x01\x07" + strings.Repeat("\xff", 8) + "\x02\x77\x11\x12\xff\xff\xff\xff\x18\x1f\x07\x21\x7f", true},
		{"no instruction", "\x00", false},
		{"no instruction behind the first one", "\x20\x22", false},
		{"no instruction ahead of the last one", "\xff\x20", false},
		{"one cut short", "\x20\x02", false},
		{"a long one cut short", "\x20\x01\x00\x00\x00\x00\x00\x00\x00\x00", false},
		{"a register 8", "\x02\x08\x20", false},
		{"a trap of 128", "\x21\x80", false},
		{"the last one goes on", "\x02\x12", true},
	} {
		want(t, c.name, api.Image{Code: c.code, Syms: th}, c.good)
	}
}

// jumpers are all that go elsewhere.
func jumpers() []api.Ins {
	return []api.Ins{{Op: api.JMP}, {Op: api.JZ, A: 1}, {Op: api.JNZ, A: 7}, {Op: api.CALL}, {Op: api.JMPS}, {Op: api.JZS, A: 2}, {Op: api.JNZS, A: 3}}
}

func TestJumps(t *testing.T) {
	for _, j := range jumpers() {
		size := ins.Size(j.Op)
		// The starts: MOVI at 0, RET at 10, the jump at 11, MOV behind it, and HALT behind that.
		behind := 11 + size
		code := behind + 3
		for to := -20; to <= code+20; to++ {
			j.N = int64(to - behind)
			im := of(t, 0, api.Ins{Op: api.MOVI, N: 5}, api.Ins{Op: api.RET}, j, api.Ins{Op: api.MOV, A: 1, B: 2}, api.Ins{Op: api.HALT})
			good := slices.Contains([]int{0, 10, 11, behind, behind + 2}, to)
			want(t, "a jump "+strconv.Itoa(j.Op)+" to "+strconv.Itoa(to), im, good)
		}
		most, least := int64(127), int64(-128)
		if size >= 5 {
			most, least = 1<<31-1, -1<<31
		}
		for _, n := range []int64{most, least} {
			j.N = n
			wantBad(t, "a jump "+strconv.Itoa(j.Op)+" as far as can be", of(t, 0, j, api.Ins{Op: api.HALT}))
		}
	}
}

func TestEachJumpIsAsked(t *testing.T) {
	for bad := range 4 {
		var l []api.Ins
		for range 4 {
			l = append(l, api.Ins{Op: api.JMPS, N: -2})
		}
		wantGood(t, "four jumps", of(t, 0, l...))
		l[bad].N = -1
		wantBad(t, "a jump into an instruction", of(t, 0, l...))
	}
}

func TestJumpsOverAllCode(t *testing.T) {
	for _, op := range []int{api.JMP, api.CALL} {
		first, _ := ins.Encode(api.Ins{Op: op, N: 65530})
		last, _ := ins.Encode(api.Ins{Op: op, N: -65536})
		im := halts(65536-10, sym("t", 3, 0))
		im.Code = first + im.Code + last
		wantBad(t, "a jump to the last byte of an instruction", im)
		first, _ = ins.Encode(api.Ins{Op: op, N: 65526})
		im.Code = first + im.Code[5:]
		wantGood(t, "jumps over all code", im)
		first, _ = ins.Encode(api.Ins{Op: op, N: 65531})
		im.Code = first + im.Code[5:]
		wantBad(t, "a jump behind all code", im)
	}
}

// Numbers of other instructions are no places.
func TestOtherNumbersAreFree(t *testing.T) {
	for _, i := range []api.Ins{{Op: api.MOVI, N: math.MinInt64}, {Op: api.LD, A: 1, N: -1}, {Op: api.ST, N: 1<<31 - 1}, {Op: api.XCHG, N: 3}, {Op: api.XADD, N: -1 << 31}, {Op: api.TRAP, N: 127}} {
		wantGood(t, "a number of the instruction "+strconv.Itoa(i.Op), of(t, 0, i, api.Ins{Op: api.HALT}))
	}
}

func TestAddresses(t *testing.T) {
	for _, words := range []int{0, 1, 2, 100, 4096} {
		end := int64(1<<20 + 8*words)
		for _, n := range []int64{1 << 20, 1<<20 + 1, 1<<20 + 4, 1<<20 + 7, 1<<20 + 8, 1<<20 + 9, 1<<20 - 1, 1<<20 - 8, end, end - 1, end - 4, end - 8, end - 9, end + 8, 0, 8, 4096, -8, 1 << 21, -1 << 20, 1<<31 - 1, 1<<31 - 8, -1 << 31} {
			good := n >= 1<<20 && n < end && n%8 == 0
			want(t, "the address "+strconv.FormatInt(n, 10)+" of "+strconv.Itoa(words)+" words", of(t, words, api.Ins{Op: api.ADR, A: 3, N: n}, api.Ins{Op: api.HALT}), good)
		}
	}
	good, bad := api.Ins{Op: api.ADR, N: 1<<20 + 8}, api.Ins{Op: api.ADR, N: 1<<20 + 16}
	wantGood(t, "three addresses", of(t, 2, good, good, good))
	wantBad(t, "the first address", of(t, 2, bad, good, good))
	wantBad(t, "the second address", of(t, 2, good, bad, good))
	wantBad(t, "the last address", of(t, 2, good, good, bad))
}

func TestSymbolsStandAtStarts(t *testing.T) {
	im := of(t, 1, api.Ins{Op: api.MOVI, N: 0x2020202020}, api.Ins{Op: api.RET}, api.Ins{Op: api.ADR, N: 1 << 20}, api.Ins{Op: api.MOV}, api.Ins{Op: api.HALT})
	for at := range len(im.Code) {
		good := slices.Contains([]int{0, 10, 11, 17, 19}, at)
		for _, kind := range []int{api.SymCode, api.SymThread} {
			im.Syms = []api.Sym{sym("t", api.SymThread, 0), sym("a", kind, at), sym("z", api.SymCode, 10)}
			want(t, "a symbol of kind "+strconv.Itoa(kind)+" at "+strconv.Itoa(at), im, good)
		}
		im.Syms = []api.Sym{sym("t", api.SymThread, at)}
		want(t, "the first thread at "+strconv.Itoa(at), im, good)
	}
}

// sample is an image with something of all kinds: CALL, ADR, RET, JMPS and HALT.
func sample() api.Image {
	return api.Image{
		Code: "\x17\x06\x00\x00\x00" + "\x13\x01\x08\x00\x10\x00" + "\x18" + "\x19\xfd" + "\x20", Data: []int64{-1, 300, math.MinInt64},
		Syms: []api.Sym{sym("run", api.SymThread, 5), sym("x", api.SymData, 2), sym("\x00\xff", api.SymCode, 11), sym("go", api.SymThread, 0)},
	}
}

func TestTextsThatAreNoForms(t *testing.T) {
	wantGood(t, "something of all kinds", sample())
	s := formOf(halts(1, sym("t", 3, 0)))
	body := s[4:]
	huge := []uint64{65537, 1 << 31, 1 << 32, 1<<32 + 1, 1 << 63, math.MaxUint64}
	for _, c := range []struct {
		name string
		s    string
	}{
		{"nothing", ""},
		{"the mark alone", "IMG1"},
		{"half a mark", "IM"},
		{"an object's mark", "COT1" + body},
		{"an object's form", "COT1" + body + "\x00"},
		{"an object's form with the image's mark", "IMG1" + body + "\x00"},
		{"another mark", "IMG2" + body},
		{"a small mark", "img1" + body},
		{"no mark", body},
		{"something ahead", " " + s},
		{"two marks", "IMG1" + s},
		{"the form twice", s + s},
		{"empty lists", "IMG1\x00\x00\x00"},
		{"a relocation behind", s + "\x01\x00\x01\x01t" + strings.Repeat("\x00", 8)},
		{"a relocation behind, cut so that what is put behind it ends it", s + "\x01\x00\x01\x01t" + strings.Repeat("\x00", 7)},
		{"a number in more bytes, of code", "IMG1\x81\x00\x20\x00\x01\x01t\x03\x00"},
		{"a number in more bytes, of data", "IMG1\x01\x20\x80\x00\x01\x01t\x03\x00"},
		{"a number in more bytes, of symbols", "IMG1\x01\x20\x00\x81\x00\x01t\x03\x00"},
		{"a number in more bytes, of a name", "IMG1\x01\x20\x00\x01\x81\x00t\x03\x00"},
		{"a number in more bytes, of a place", "IMG1\x01\x20\x00\x01\x01t\x03\x80\x00"},
		{"a place that does not end", "IMG1\x01\x20\x00\x01\x01t\x03\x80"},
		{"no place", "IMG1\x01\x20\x00\x01\x01t\x03"},
		{"half a word", "IMG1\x01\x20\x01\x00\x00\x00"},
	} {
		wantNone(t, c.name, c.s)
	}
	four := halts(4, sym("t", 3, 0))
	wantGood(t, "room for a relocation", four)
	wantNone(t, "a relocation behind, for which there is room", formOf(four)+"\x01\x00\x01\x01t"+strings.Repeat("\x00", 8))
	wantNone(t, "a relocation behind, cut so that what is put behind it ends it", formOf(four)+"\x01\x00\x01\x01t"+strings.Repeat("\x00", 7))
	for _, u := range huge {
		wantNone(t, "so much code", "IMG1"+num(u)+strings.Repeat("\x20", 70000)+"\x00\x01\x01t\x03\x00")
		wantNone(t, "so many words", "IMG1\x01\x20"+num(u)+"\x01\x01t\x03\x00")
		wantNone(t, "so many symbols", "IMG1\x01\x20\x00"+num(u)+"\x01t\x03\x00")
		wantNone(t, "so long a name", "IMG1\x01\x20\x00\x01"+num(u)+"t\x03\x00")
		wantNone(t, "such a place", "IMG1\x01\x20\x00\x01\x01t\x03"+num(u))
	}
}

func TestFormsCutShortAndWithMore(t *testing.T) {
	for _, im := range []api.Image{sample(), halts(1, sym("t", 3, 0))} {
		s := formOf(im)
		for n := range len(s) {
			wantNone(t, "cut to "+strconv.Itoa(n), s[:n])
			if n > 0 {
				wantNone(t, "without its first "+strconv.Itoa(n), s[n:])
			}
		}
		for b := range 256 {
			wantNone(t, "one more byte", s+string([]byte{byte(b)}))
			wantNone(t, "two more bytes", s+"\x00"+string([]byte{byte(b)}))
		}
	}
}

// turnsBack wants a text that is a form to be the very form of what is read, and that image to be one by the chapter's words.
func turnsBack(t *testing.T, s string) bool {
	t.Helper()
	im, e := image.Read(s)
	if e != api.OK {
		if e != api.ErrObject || !same(im, api.Image{}) {
			t.Fatalf("P8.1, R3: %q: %v, error %d", s, im, e)
		}
		return false
	}
	if again, e := image.Write(im); again != s || e != api.OK || image.Check(im) != api.OK || !meant(im) {
		t.Fatalf("P8.2: %q: %q, error %d", s, again, e)
	}
	return true
}

func TestWriteTurnsReadBack(t *testing.T) {
	s := formOf(sample())
	forms := 0
	for at := range len(s) {
		for b := range 256 {
			if turnsBack(t, s[:at]+string([]byte{byte(b)})+s[at+1:]) {
				forms++
			}
		}
		turnsBack(t, s[:at]+s[at+1:])
		turnsBack(t, s[:at]+"\x00"+s[at:])
		turnsBack(t, s[:at]+"\x80"+s[at:])
	}
	if forms < len(s) {
		t.Errorf("P8.1: %d texts alone are forms", forms)
	}
	r := rand.New(rand.NewSource(81))
	for range 20000 {
		b := []byte("IMG1")
		for range r.Intn(24) {
			b = append(b, []byte{0, 1, 2, 3, 24, 25, 30, 32, 255}[r.Intn(9)])
		}
		turnsBack(t, string(b))
	}
}

// meant tells by the chapter's words whether an image may be.
func meant(im api.Image) bool {
	if objf.Check(api.Object{Code: im.Code, Data: im.Data, Syms: im.Syms}) != api.OK {
		return false
	}
	var starts []int
	for at := 0; at < len(im.Code); {
		starts = append(starts, at)
		_, behind, e := ins.Decode(im.Code, at)
		if e != api.OK {
			return false
		}
		at = behind
	}
	for _, at := range starts {
		i, behind, _ := ins.Decode(im.Code, at)
		switch {
		case i.Op >= api.JMP && i.Op <= api.CALL || i.Op >= api.JMPS && i.Op <= api.JNZS:
			if !slices.Contains(starts, behind+int(i.N)) {
				return false
			}
		case i.Op == api.ADR:
			if word := (i.N - 1048576) / 8; i.N != 1048576+8*word || word < 0 || word >= int64(len(im.Data)) {
				return false
			}
		}
	}
	threads := 0
	for _, s := range im.Syms {
		if s.Kind != api.SymData && !slices.Contains(starts, s.At) {
			return false
		}
		if s.Kind == api.SymThread {
			threads++
		}
	}
	return threads >= 1 && threads <= 4
}

// randomIns is an instruction of any sort: of jumps N is a place that may be one, of ADR an address that may be.
func randomIns(r *rand.Rand) api.Ins {
	for {
		i := api.Ins{Op: 1 + r.Intn(33), A: r.Intn(8), B: r.Intn(8), N: int64(r.Intn(60) - 30)}
		switch i.Op {
		case api.ADR:
			i.N = 1<<20 + int64(r.Intn(5))*8
		case api.MOVI:
			i.N = int64(r.Uint64())
		case api.TRAP:
			i.N = int64(r.Intn(128))
		}
		for range 3 {
			if _, e := ins.Encode(i); e == api.OK {
				return i
			}
			if i.B != 0 {
				i.B = 0
			} else if i.A != 0 {
				i.A = 0
			} else {
				i.N = 0
			}
		}
	}
}

// randomImage may be or not: its jumps go to starts, but for some.
func randomImage(r *rand.Rand) api.Image {
	var l []api.Ins
	for range 1 + r.Intn(12) {
		l = append(l, randomIns(r))
	}
	l = append(l, api.Ins{Op: api.HALT})
	places := []int{0}
	for _, i := range l {
		places = append(places, places[len(places)-1]+ins.Size(i.Op))
	}
	off := r.Intn(4) == 0
	im := api.Image{Data: make([]int64, 4)}
	for k, i := range l {
		if i.Op >= api.JMP && i.Op <= api.CALL || i.Op >= api.JMPS && i.Op <= api.JNZS {
			i.N = int64(places[r.Intn(len(l))] - places[k+1])
			if off && r.Intn(4) == 0 {
				i.N++
			}
		}
		if i.Op == api.ADR && !off && i.N == 1<<20+32 {
			i.N -= 8
		}
		s, _ := ins.Encode(i)
		im.Code += s
	}
	for k := range 1 + r.Intn(4) {
		at := places[r.Intn(len(l))]
		if off && r.Intn(8) == 0 {
			at++
		}
		im.Syms = append(im.Syms, sym("t"+strconv.Itoa(k), api.SymThread, at), sym("f"+strconv.Itoa(k), 1+r.Intn(2), 0))
	}
	return im
}

func TestImagesOfAllSorts(t *testing.T) {
	r := rand.New(rand.NewSource(82))
	good, bad := 0, 0
	for range 10000 {
		im := randomImage(r)
		if meant(im) {
			good++
			wantGood(t, "an image that may be", im)
		} else {
			bad++
			wantBad(t, "an image that may not be", im)
		}
	}
	if good < 1000 || bad < 500 {
		t.Errorf("P8.1: %d may be, %d may not: that tells little", good, bad)
	}
}

func TestThreads(t *testing.T) {
	for _, c := range []struct {
		name string
		im   api.Image
		want []string
	}{
		{"of nothing", api.Image{}, nil},
		{"of no threads", halts(1, sym("a", 1, 0), sym("b", 2, 0)), nil},
		{"of one", halts(1, sym("t", 3, 0)), []string{"t"}},
		{"in their order", halts(3, sym("z", 3, 2), sym("f", 1, 0), sym("a", 3, 0), sym("m", 3, 1)), []string{"z", "a", "m"}},
		{"of an image that may not be", api.Image{Syms: []api.Sym{sym("a", 3, -5), sym("b", 4, 0), sym("a", 3, 9), sym("", 3, 1), sym("c", -3, 0), sym("d", 259, 0), sym("e", 3, 0), sym("f", 3, 0)}}, []string{"a", "a", "", "e", "f"}},
		{"of too many", halts(0, sym("a", 3, 0), sym("b", 3, 0), sym("c", 3, 0), sym("d", 3, 0), sym("e", 3, 0)), []string{"a", "b", "c", "d", "e"}},
	} {
		if l := image.Threads(c.im); !slices.Equal(l, c.want) {
			t.Errorf("P8.1: Threads %s: %q, want %q", c.name, l, c.want)
		}
	}
	many := named(100000)
	for k := range many {
		many[k].Kind = api.SymThread
	}
	if l := image.Threads(api.Image{Syms: many}); len(l) != 100000 || l[99999] != "s99999" {
		t.Errorf("P8.1: Threads of very many: %d names", len(l))
	}
}

func TestWhatIsHandedInIsNotChanged(t *testing.T) {
	r := rand.New(rand.NewSource(83))
	for range 300 {
		im := randomImage(r)
		before := api.Image{Code: im.Code, Data: slices.Clone(im.Data), Syms: slices.Clone(im.Syms)}
		e := image.Check(im)
		s, e2 := image.Write(im)
		names := image.Threads(im)
		if !same(im, before) {
			t.Fatalf("R5: %v became %v", before, im)
		}
		again, e3 := image.Write(im)
		if image.Check(im) != e || again != s || e3 != e2 || !slices.Equal(image.Threads(im), names) {
			t.Fatalf("R6: %v: another answer", im)
		}
	}
}

// wipe writes over all of a list, its spare room too.
func wipe[T any](l []T, v T) {
	l = l[:cap(l)]
	for k := range l {
		l[k] = v
	}
}

func TestWhatIsAnsweredIsNew(t *testing.T) {
	im := sample()
	s, _ := image.Write(im)
	one, _ := image.Read(s)
	two, e := image.Read(s)
	wipe(one.Data, 77)
	if !slices.Equal(one.Syms, im.Syms) {
		t.Errorf("R5: two lists of one answer share memory")
	}
	wipe(one.Syms, sym("wiped", 9, 9))
	if e != api.OK || !same(two, im) {
		t.Errorf("R5: two answers share memory")
	}
	if three, e := image.Read(s); e != api.OK || !same(three, im) {
		t.Errorf("R6: another answer")
	}
	names := image.Threads(im)
	wipe(names, "wiped")
	if !slices.Equal(image.Threads(im), []string{"run", "go"}) || !same(im, sample()) {
		t.Errorf("R5: Threads shares memory")
	}
	im.Data[0], im.Syms[0].Name = 1, "other"
	if again, _ := image.Write(sample()); again != s {
		t.Errorf("R5: what was handed in is kept")
	}
}
