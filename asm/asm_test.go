package asm_test

import (
	"slices"
	"strconv"
	"strings"
	"testing"

	"cotter/api"
	"cotter/asm"
	"cotter/asmtext"
	"cotter/image"
	"cotter/link"
	"cotter/objf"
	"cotter/tso"
)

// The calls have the types that the chapter lists.
var (
	_ func([]api.Item) (api.Object, api.Errno) = asm.Assemble
	_ func(string) (api.Object, api.Errno)     = asm.Text
)

func same(a api.Object, b api.Object) bool {
	return a.Code == b.Code && slices.Equal(a.Data, b.Data) && slices.Equal(a.Syms, b.Syms) && slices.Equal(a.Relocs, b.Relocs)
}

func parse(t *testing.T, s string) []api.Item {
	t.Helper()
	l, e := asmtext.Parse(s)
	if e != api.OK {
		t.Fatalf("%.60q is no text: error %d", s, e)
	}
	return l
}

// wantObject wants a text to become an object, which may be.
func wantObject(t *testing.T, s string, want api.Object) {
	t.Helper()
	got, e := asm.Text(s)
	if e != api.OK || !same(got, want) {
		t.Errorf("P10.1, P10.2: %.80q: %.200v, error %d; want %.200v", s, got, e, want)
	}
	if got, e := asm.Assemble(parse(t, s)); e != api.OK || !same(got, want) {
		t.Errorf("P10.1: %.80q: %.200v, error %d; want %.200v", s, got, e, want)
	}
	if e := objf.Check(got); e != api.OK {
		t.Errorf("P10.3: %.80q: the object may not be: error %d", s, e)
	}
}

func wantError(t *testing.T, s string, want api.Errno) {
	t.Helper()
	if o, e := asm.Text(s); e != want || !same(o, api.Object{}) {
		t.Errorf("P10.1, R3: %.80q: %.80v, error %d; want %d", s, o, e, want)
	}
	if o, e := asm.Assemble(parse(t, s)); e != want || !same(o, api.Object{}) {
		t.Errorf("P10.1, R3: %.80q: %.80v, error %d; want %d", s, o, e, want)
	}
}

// wantCode is of texts without symbols, data and relocations.
func wantCode(t *testing.T, s string, code string) {
	t.Helper()
	wantObject(t, s, api.Object{Code: code})
}

func rets(n int) string {
	return strings.Repeat("ret\n", n)
}

func codeOfRets(n int) string {
	return strings.Repeat("\x18", n)
}

func TestExamples(t *testing.T) {
	wantCode(t, "x:\njmp x\n", "\x19\xfe")
	wantObject(t, "call y", api.Object{Code: "\x17\x00\x00\x00\x00", Relocs: []api.Reloc{{At: 1, Kind: api.RelJump, Name: "y"}}})
	wantError(t, "jmp y", api.ErrUndefined)
	wantCode(t, "", "")
	if o, e := asm.Assemble(nil); e != api.OK || !same(o, api.Object{}) {
		t.Errorf("P10.1: nothing: %v, error %d", o, e)
	}
}

// Each instruction is written as the table of the instructions' forms says.
func TestEachInstruction(t *testing.T) {
	for line, code := range map[string]string{
		"movi r3 5":                    "\x01\x03\x05\x00\x00\x00\x00\x00\x00\x00",
		"movi r7 -9223372036854775808": "\x01\x07\x00\x00\x00\x00\x00\x00\x00\x80",
		"mov r1 r2":                    "\x02\x12",
		"add r7 r0":                    "\x03\x70",
		"sub r0 r7":                    "\x04\x07",
		"mul r1 r1":                    "\x05\x11",
		"div r1 r2":                    "\x06\x12",
		"rem r1 r2":                    "\x07\x12",
		"and r1 r2":                    "\x08\x12",
		"or r1 r2":                     "\x09\x12",
		"xor r1 r2":                    "\x0a\x12",
		"shl r1 r2":                    "\x0b\x12",
		"sar r1 r2":                    "\x0c\x12",
		"eq r1 r2":                     "\x0d\x12",
		"ne r1 r2":                     "\x0e\x12",
		"lt r1 r2":                     "\x0f\x12",
		"le r1 r2":                     "\x10\x12",
		"ld r1 r2 8":                   "\x11\x12\x08\x00\x00\x00",
		"st r1 -8 r2":                  "\x12\x12\xf8\xff\xff\xff",
		"xchg r3 2147483647 r4":        "\x1c\x34\xff\xff\xff\x7f",
		"xadd r3 -2147483648 r4":       "\x1d\x34\x00\x00\x00\x80",
		"ret":                          "\x18",
		"fence":                        "\x1e",
		"halt":                         "\x20",
		"out r7":                       "\x1f\x07",
		"trap 127":                     "\x21\x7f",
		"x:\njmp x":                    "\x19\xfe",
		"x:\njz r5 x":                  "\x1a\x05\xfd",
		"x:\njnz r6 x":                 "\x1b\x06\xfd",
		"x:\ncall x":                   "\x17\xfb\xff\xff\xff",
	} {
		wantCode(t, line, code)
		if strings.HasPrefix(line, "x:") {
			wantCode(t, "ret\n"+line+"\nhalt", "\x18"+code+"\x20")
		} else {
			wantCode(t, line+"\n"+line, code+code)
		}
	}
}

func TestCalls(t *testing.T) {
	wantCode(t, "call x\nx:", "\x17\x00\x00\x00\x00")
	wantCode(t, "call x\nret\nx:\nhalt", "\x17\x01\x00\x00\x00\x18\x20")
	wantCode(t, "x:\nret\ncall x", "\x18\x17\xfa\xff\xff\xff")
	// No call is short, and none is too far.
	wantCode(t, "call x\n"+rets(300)+"x:", "\x17\x2c\x01\x00\x00"+codeOfRets(300))
	wantCode(t, "x:\n"+rets(300)+"call x", codeOfRets(300)+"\x17\xcf\xfe\xff\xff")
	// What is called elsewhere may be named by nobody here, or be words, or an address too.
	wantObject(t, "ret\ncall y\ncall x\nx:\ncall y", api.Object{Code: "\x18\x17\x00\x00\x00\x00\x17\x00\x00\x00\x00\x17\x00\x00\x00\x00",
		Relocs: []api.Reloc{{At: 2, Kind: api.RelJump, Name: "y"}, {At: 12, Kind: api.RelJump, Name: "y"}}})
	wantObject(t, "call d\n.words d 1", api.Object{Code: "\x17\x00\x00\x00\x00", Data: []int64{1},
		Syms: []api.Sym{{Name: "d", Kind: api.SymData}}, Relocs: []api.Reloc{{At: 1, Kind: api.RelJump, Name: "d"}}})
	wantObject(t, "adr r1 y 0\ncall y", api.Object{Code: "\x13\x01\x00\x00\x00\x00\x17\x00\x00\x00\x00",
		Relocs: []api.Reloc{{At: 2, Kind: api.RelAddr, Name: "y"}, {At: 7, Kind: api.RelJump, Name: "y"}}})
}

func TestAddresses(t *testing.T) {
	for _, n := range []int64{0, 1, -1, 8, 1<<31 - 1, -1 << 31} {
		wantObject(t, "adr r7 d "+strconv.FormatInt(n, 10), api.Object{Code: "\x13\x07\x00\x00\x00\x00",
			Relocs: []api.Reloc{{At: 2, Kind: api.RelAddr, Name: "d", Add: n}}})
	}
	// A name is not looked up: it is a relocation's, of words and labels too.
	wantObject(t, ".words d 5\nx:\nadr r1 d 8\nadr r2 x -8\nadr r2 d 0", api.Object{Code: "\x13\x01\x00\x00\x00\x00\x13\x02\x00\x00\x00\x00\x13\x02\x00\x00\x00\x00", Data: []int64{5},
		Syms: []api.Sym{{Name: "d", Kind: api.SymData}}, Relocs: []api.Reloc{{At: 2, Kind: api.RelAddr, Name: "d", Add: 8}, {At: 8, Kind: api.RelAddr, Name: "x", Add: -8}, {At: 14, Kind: api.RelAddr, Name: "d"}}})
}

func TestDataAndSymbols(t *testing.T) {
	wantObject(t, ".words e 7 8\n.thread x\n.words d -1\nx:\n.global y\nret\ny:\n.words c 9223372036854775807 0 0\nhalt\nz:\n.global w\nw:\nret", api.Object{
		Code: "\x18\x20\x18",
		Data: []int64{7, 8, -1, 1<<63 - 1, 0, 0},
		Syms: []api.Sym{{Name: "e", Kind: api.SymData}, {Name: "x", Kind: api.SymThread}, {Name: "d", Kind: api.SymData, At: 2}, {Name: "y", Kind: api.SymCode, At: 1}, {Name: "c", Kind: api.SymData, At: 3}, {Name: "w", Kind: api.SymCode, At: 2}},
	})
	// Two labels at one place, each seen by others; a label that is seen ahead of itself and behind itself.
	wantObject(t, "x:\ny:\n.global y\nret\n.thread x", api.Object{Code: "\x18",
		Syms: []api.Sym{{Name: "y", Kind: api.SymCode}, {Name: "x", Kind: api.SymThread}}})
	// Where a label stands hangs on the lengths of jumps ahead of it.
	wantObject(t, "jmp y\n"+rets(128)+"x:\ny:\nret\n.global x\n", api.Object{Code: "\x14\x80\x00\x00\x00" + codeOfRets(129), Syms: []api.Sym{{Name: "x", Kind: api.SymCode, At: 133}}})
	wantObject(t, "jmp y\n"+rets(127)+"x:\ny:\nret\n.global x\n", api.Object{Code: "\x19\x7f" + codeOfRets(128), Syms: []api.Sym{{Name: "x", Kind: api.SymCode, At: 129}}})
}

// jumps are those with their short and their long form, without the distance.
var jumps = []struct{ line, short, long string }{
	{"jmp x\n", "\x19", "\x14"},
	{"jz r1 x\n", "\x1a\x01", "\x15\x01"},
	{"jnz r7 x\n", "\x1b\x07", "\x16\x07"},
}

func long(n int) string {
	return string([]byte{byte(n), byte(n >> 8), byte(n >> 16), byte(n >> 24)})
}

func TestJustShortEnough(t *testing.T) {
	for _, j := range jumps {
		for n := range 300 {
			ahead := j.short + string([]byte{byte(n)})
			if n > 127 {
				ahead = j.long + long(n)
			}
			wantCode(t, j.line+rets(n)+"x:\nhalt", ahead+codeOfRets(n)+"\x20")
			wantCode(t, j.line+rets(n)+"x:", ahead+codeOfRets(n))

			far := -(n + len(j.short) + 1)
			back := j.short + string([]byte{byte(far)})
			if far < -128 {
				back = j.long + long(-(n + len(j.long) + 4))
			}
			wantCode(t, "x:\n"+rets(n)+j.line+"halt", codeOfRets(n)+back+"\x20")
		}
	}
}

// Each jump is in another's way: the first one is a byte too far, and makes the next one too far, and so on.
func TestJumpsThatBecomeLongBecauseOthersDo(t *testing.T) {
	// b's jump is too far by itself; a's is only as b's is between it and its label.
	wantCode(t, "jmp a\njmp b\n"+rets(125)+"a:\n"+rets(3)+"b:", "\x14"+long(130)+"\x14"+long(128)+codeOfRets(128))
	wantCode(t, "jmp a\njmp b\n"+rets(125)+"a:\n"+rets(2)+"b:", "\x19\x7f\x19\x7f"+codeOfRets(127))
	wantCode(t, "jmp a\njmp b\n"+rets(122)+"a:\n"+rets(6)+"b:", "\x19\x7f\x14"+long(128)+codeOfRets(128))
	// The other way round: the jump that is too far stands behind the other one's label.
	wantCode(t, "b:\n"+rets(3)+"a:\n"+rets(124)+"jmp b\njmp a", codeOfRets(127)+"\x14"+long(-132)+"\x14"+long(-134))
	wantCode(t, "b:\n"+rets(2)+"a:\n"+rets(124)+"jmp b\njmp a", codeOfRets(126)+"\x19\x80\x19\x80")
	wantCode(t, "b:\n"+rets(6)+"a:\n"+rets(121)+"jmp b\njmp a", codeOfRets(127)+"\x14"+long(-132)+"\x19\x80")
	// A jump's own length does not make it too far to a label ahead of it: only the short form is held against its distance.
	wantCode(t, "a:\n"+rets(126)+"jmp a", codeOfRets(126)+"\x19\x80")
	wantCode(t, "a:\n"+rets(127)+"jmp a", codeOfRets(127)+"\x14"+long(-132))
	// Conditional ones: three bytes, and six.
	wantCode(t, "jz r1 a\njnz r2 b\n"+rets(124)+"a:\n"+rets(4)+"b:", "\x15\x01"+long(130)+"\x16\x02"+long(128)+codeOfRets(128))
	wantCode(t, "jz r1 a\njnz r2 b\n"+rets(124)+"a:\n"+rets(3)+"b:", "\x1a\x01\x7f\x1b\x02\x7f"+codeOfRets(127))
}

// forward has n jumps; each spans the 26 behind it, and reaches its label unless all of them are long. The last ones have some code more to span.
func forward(n int, more int) []api.Item {
	const spanned = 26
	name := func(k int) string { return "l" + strconv.Itoa(k) }
	var l []api.Item
	for k := range n {
		if k > spanned {
			l = append(l, label(name(k-spanned-1)))
		}
		l = append(l, to(api.JMP, name(k)))
	}
	l = append(l, label(name(n-spanned-1)))
	l = append(l, repeat(more, op(api.RET))...)
	for k := n - spanned; k < n; k++ {
		l = append(l, label(name(k)))
	}
	return l
}

// backward has n jumps; each spans the 21 ahead of it, and itself, and reaches its label unless all of them are long. The first ones have some code more to span.
func backward(n int, more int) []api.Item {
	const spanned = 21
	name := func(k int) string { return "l" + strconv.Itoa(max(k, 0)) }
	l := append([]api.Item{label(name(0))}, repeat(more, op(api.RET))...)
	for k := range n {
		if k > 0 {
			l = append(l, label(name(k)))
		}
		l = append(l, to(api.JZ, name(k-spanned)))
	}
	return l
}

func TestChains(t *testing.T) {
	for _, n := range []int{27, 28, 60, 200} {
		for more := range 140 {
			wantModel(t, forward(n, more), growing)
			wantModel(t, backward(n, more), growing)
		}
	}
}

// Each jump becomes long in a round of its own: there are nearly as many rounds as items.
func TestManyRounds(t *testing.T) {
	const n = 9900
	o, e := asm.Assemble(forward(n, 128))
	if want := strings.Repeat("\x14"+long(130), n-26); e != api.OK || len(o.Code) != 5*n+128 || !strings.HasPrefix(o.Code, want) {
		t.Errorf("P10.1: forward: %d bytes, error %d", len(o.Code), e)
	}
	o, e = asm.Assemble(backward(n, 126))
	if want := strings.Repeat("\x15\x00"+long(-132), n-22); e != api.OK || len(o.Code) != 6*n+126 || !strings.HasSuffix(o.Code, want) {
		t.Errorf("P10.1: backward: %d bytes, error %d", len(o.Code), e)
	}
	// With as little more code as this nothing is too far.
	if o, e = asm.Assemble(backward(n, 62)); e != api.OK || len(o.Code) != 3*n+62 {
		t.Errorf("P10.1: backward: %d bytes, error %d", len(o.Code), e)
	}
}

func TestLabelsAtTheEnd(t *testing.T) {
	wantCode(t, "x:", "")
	wantCode(t, "ret\nx:", "\x18")
	wantCode(t, "jmp x\nx:", "\x19\x00")
	wantCode(t, "jz r0 x\nx:\ny:", "\x1a\x00\x00")
	wantCode(t, "call x\nx:", "\x17\x00\x00\x00\x00")
	wantObject(t, "ret\nx:\n.words d 1\n.words e 2", api.Object{Code: "\x18", Data: []int64{1, 2}, Syms: []api.Sym{{Name: "d", Kind: api.SymData}, {Name: "e", Kind: api.SymData, At: 1}}})
	for _, shown := range []string{".global x\n", ".thread x\n"} {
		wantError(t, shown+"x:", api.ErrUndefined)
		wantError(t, "x:\n"+shown, api.ErrUndefined)
		wantError(t, "ret\nx:\n"+shown, api.ErrUndefined)
		wantError(t, shown+"jmp x\nx:\n", api.ErrUndefined)
		wantError(t, shown+"jmp x\nx:\ny:\n.words d 1 2 3 4\n", api.ErrUndefined)
		wantError(t, shown+"y:\nret\nx:\n.global y", api.ErrUndefined)
	}
	wantObject(t, "ret\n.global x\nx:\n.words d 1\ny:\nret", api.Object{Code: "\x18\x18", Data: []int64{1}, Syms: []api.Sym{{Name: "x", Kind: api.SymCode, At: 1}, {Name: "d", Kind: api.SymData}}})
}

// A small whole: assembled, linked and run.
func TestWhatIsAssembledRuns(t *testing.T) {
	main, e := asm.Text(".thread t\nt: # counts from 3 down\nmovi r1 3\nmovi r2 1\nnext:\njz r1 done\nout r1\nsub r1 r2\njmp next\ndone:\nadr r3 d 8\nld r1 r3 0\ncall show\nhalt\n")
	if e != api.OK {
		t.Fatalf("error %d", e)
	}
	other, e := asm.Text(".words d 5 6\n.global show\nret\nshow:\nout r1\nret\n")
	if e != api.OK {
		t.Fatalf("error %d", e)
	}
	im, e := link.Link(main, other)
	if e != api.OK || image.Check(im) != api.OK {
		t.Fatalf("error %d", e)
	}
	events, e := tso.Run(im, make([]int, 100))
	want := []api.Event{{Kind: api.EvPrint, N: 3}, {Kind: api.EvPrint, N: 2}, {Kind: api.EvPrint, N: 1}, {Kind: api.EvPrint, N: 6}, {Kind: api.EvEnd}}
	if e != api.OK || !slices.Equal(events, want) {
		t.Errorf("P10.1: %v, error %d; want %v", events, e, want)
	}
}

func TestHandedInIsNotChanged(t *testing.T) {
	const s = ".words d 1 2 3\n.words e 4\nx:\n.global x\njz r1 x\nadr r1 d 8\ncall y\n"
	whole := append(parse(t, s), api.Item{Kind: -1, Words: []int64{9}})
	l := whole[:len(whole)-1]
	l[0].Words = append(l[0].Words, 77)[:3]
	o, _ := asm.Assemble(l)
	was, _ := asm.Assemble(l)
	if !slices.EqualFunc(l, parse(t, s), func(a api.Item, b api.Item) bool {
		return a.Kind == b.Kind && a.Name == b.Name && a.Ins == b.Ins && slices.Equal(a.Words, b.Words)
	}) || whole[len(l)].Kind != -1 || l[0].Words[:4][3] != 77 {
		t.Errorf("R5: the items became %v", whole)
	}
	l[0].Words[0], l[1].Words[0], l[2].Name, l[4].Ins.A = 9, 9, "z", 7
	if !same(o, was) {
		t.Errorf("R5: the object became %v", o)
	}
}

func TestAnsweredIsNewMemory(t *testing.T) {
	l := parse(t, ".words d 1 2 3\n.words e 4\nx:\n.global x\njz r1 x\nadr r1 d 8\ncall y\n")
	was, _ := asm.Assemble(l)
	o, _ := asm.Assemble(l)
	for i := range o.Data[:cap(o.Data)] {
		o.Data[:cap(o.Data)][i] = -1
	}
	clear(o.Syms[:cap(o.Syms)])
	clear(o.Relocs[:cap(o.Relocs)])
	if again, e := asm.Assemble(l); e != api.OK || !same(again, was) {
		t.Errorf("R5, R6: %v, then %v, error %d", was, again, e)
	}
	for _, n := range was.Data[len(was.Data):cap(was.Data)] {
		if n != 0 {
			t.Errorf("R5: the spare room of the data has %d", n)
		}
	}
	one := parse(t, ".words d 1 2 3")
	o, _ = asm.Assemble(one)
	o.Data[0] = 9
	if one[0].Words[0] != 1 {
		t.Errorf("R5: the data is the item's")
	}
}
