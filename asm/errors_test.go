package asm_test

import (
	"slices"
	"strconv"
	"strings"
	"testing"

	"cotter/api"
	"cotter/asm"
	"cotter/asmtext"
)

func lines(n int, line func(k string) string) string {
	var b strings.Builder
	for k := range n {
		b.WriteString(line(strconv.Itoa(k)) + "\n")
	}
	return b.String()
}

// The faults, in their order; each is one alone, whatever other ones stand beside it.
var faults = []struct {
	error api.Errno
	texts []string
}{
	{api.ErrDuplicate, []string{
		"l1:\nl1:\n", "l2:\n.words l2 1\n", ".words l3 1\nl3:\n", ".words l4 1\n.words l4 1\n", "l5:\nret\nl5:\nret\n",
		"l6:\nret\n.global l6\n.global l6\n", "l7:\nret\n.thread l7\n.thread l7\n", "l8:\nret\n.thread l8\n.global l8\n", ".global l9\n.thread l9\nl9:\nret\n",
	}},
	{api.ErrUndefined, []string{
		"jmp u1\n", "jz r1 u2\n", "jnz r1 u3\n", ".global u4\n", ".thread u5\n", ".words u6 1\njmp u6\n", ".words u7 1\n.global u7\n", "jmp u8\n.words u8 1 2\n.words u88 1\n.thread u8\n", "call u9\njmp u9\n", "U:\nret\n.global u\n",
	}},
	{api.ErrLarge, []string{
		strings.Repeat("movi r1 5\n", 6554),
		lines(1001, func(k string) string { return ".words w" + k + " 1" }),
		lines(1001, func(k string) string { return "g" + k + ":\n.global g" + k }) + "ret\n",
		strings.Repeat("adr r1 d 0\n", 8001),
		strings.Repeat("call c\n", 8001),
	}},
	{api.ErrUndefined, []string{".global e1\ne1:\n", ".thread e2\ne2:\n", "e3:\n.global e3\n.words w 1\n"}},
}

func TestEachErrorAlone(t *testing.T) {
	for _, f := range faults {
		for _, s := range f.texts {
			wantError(t, s, f.error)
		}
	}
	bad := []api.Item{{Kind: 0}, {Kind: api.ItemLabel}, {Kind: api.ItemIns}, {Kind: api.ItemIns, Ins: api.Ins{Op: api.JMPS}}, {Kind: api.ItemIns, Name: "x", Ins: api.Ins{Op: api.JMP, N: 1}}, {Kind: api.ItemWords, Name: "x"}, {Kind: api.ItemIns, Ins: api.Ins{Op: api.MOV, A: 8}}}
	for _, x := range bad {
		wantArg(t, []api.Item{x})
		wantArg(t, []api.Item{{Kind: api.ItemIns, Ins: api.Ins{Op: api.RET}}, x})
	}
	ret := []api.Item{{Kind: api.ItemIns, Ins: api.Ins{Op: api.RET}}}
	if o, e := asm.Assemble(slices.Repeat(ret, 20000)); e != api.OK || len(o.Code) != 20000 {
		t.Errorf("P10.1: 20000 items: %d bytes, error %d", len(o.Code), e)
	}
	wantArg(t, slices.Repeat(ret, 20001))
}

func wantArg(t *testing.T, l []api.Item) {
	t.Helper()
	if o, e := asm.Assemble(l); e != api.ErrArg || !same(o, api.Object{}) {
		t.Errorf("P10.1, R3: %.60v: %.60v, error %d", l, o, e)
	}
}

// Of several errors the first one is told, whichever of the texts stands ahead.
func TestErrorsInTheirOrder(t *testing.T) {
	for i, f := range faults {
		for _, g := range faults[i+1:] {
			for _, s := range f.texts {
				for _, u := range g.texts {
					wantFirst(t, s, u, f.error)
				}
			}
		}
		for _, s := range f.texts {
			wantArg(t, append(parse(t, s), api.Item{}))
			wantArg(t, append([]api.Item{{}}, parse(t, s)...))
		}
	}
	all := []string{faults[0].texts[5], faults[1].texts[0], faults[2].texts[1], faults[3].texts[0]}
	for k := range all {
		wantError(t, strings.Join(all[k:], ""), faults[k].error)
		slices.Reverse(all[k:])
		wantError(t, strings.Join(all[k:], ""), faults[k].error)
		slices.Reverse(all[k:])
	}
}

// wantFirst takes them as items: two texts may be too long for one.
func wantFirst(t *testing.T, s string, u string, want api.Errno) {
	t.Helper()
	a, b := parse(t, s), parse(t, u)
	for _, l := range [][]api.Item{slices.Concat(a, b), slices.Concat(b, a)} {
		if asmtext.Check(l) != api.OK {
			t.Fatalf("%.40q and %.40q may not be", s, u)
		}
		if o, e := asm.Assemble(l); e != want || !same(o, api.Object{}) {
			t.Errorf("P10.1, R2: %.40q and %.40q: error %d, want %d", s, u, e, want)
		}
	}
}

// What looks like a duplicate, but is none.
func TestNamesThatMayBeTwice(t *testing.T) {
	for _, s := range []string{
		"x:\nret\n.global x\n", "x:\nret\n.thread x\njmp x\ncall x\nadr r1 x 0\n", "x:\nX:\nret\n.global x\n.thread X\n", "x:\nx.:\nx_:\nret\n",
		"adr r1 d 0\nadr r1 d 0\ncall d\ncall d\n.words d 1\n", ".words x 1\ny:\nret\n.global y\n",
	} {
		if _, e := asm.Text(s); e != api.OK {
			t.Errorf("P10.1: %q: error %d", s, e)
		}
	}
}

func repeat(n int, t api.Item) []api.Item {
	return slices.Repeat([]api.Item{t}, n)
}

func op(op int) api.Item {
	return api.Item{Kind: api.ItemIns, Ins: api.Ins{Op: op}}
}

func to(op int, name string) api.Item {
	return api.Item{Kind: api.ItemIns, Name: name, Ins: api.Ins{Op: op}}
}

func label(name string) api.Item {
	return api.Item{Kind: api.ItemLabel, Name: name}
}

// codeItems have so many bytes of code.
func codeItems(n int) []api.Item {
	return slices.Concat(repeat(n/10, op(api.MOVI)), repeat(n%10, op(api.RET)))
}

func numbered(kind int, n int) []api.Item {
	var l []api.Item
	for k := range n {
		x := api.Item{Kind: kind, Name: "n" + strconv.Itoa(kind) + "." + strconv.Itoa(k)}
		if kind == api.ItemWords {
			x.Words = []int64{int64(k)}
		} else {
			l = append(l, label(x.Name))
		}
		l = append(l, x)
	}
	return l
}

func wordsOf(name string, n int) api.Item {
	return api.Item{Kind: api.ItemWords, Name: name, Words: make([]int64, n)}
}

func TestLimits(t *testing.T) {
	ret := repeat(1, op(api.RET))
	jump := []api.Item{label("x"), to(api.JMP, "x")}
	for _, c := range []struct {
		name string
		l    []api.Item
		good bool
	}{
		{"all code", codeItems(65536), true},
		{"too much code", codeItems(65537), false},
		{"far too much code", repeat(20000, op(api.MOVI)), false},
		{"all code, with a short jump", slices.Concat(jump, codeItems(65534)), true},
		{"too much code, with a short jump", slices.Concat(jump, codeItems(65535)), false},
		{"all code, with a long jump", slices.Concat(jump[:1], codeItems(65531), jump[1:]), true},
		{"too much code, with a long jump", slices.Concat(jump[:1], codeItems(65532), jump[1:]), false},
		{"all code, and a call over it", slices.Concat([]api.Item{to(api.CALL, "x")}, codeItems(65531), jump[:1]), true},
		{"too much code, and a call over it", slices.Concat([]api.Item{to(api.CALL, "x")}, codeItems(65532), jump[:1]), false},
		{"all words at once", []api.Item{wordsOf("d", 4096)}, true},
		{"all words in two", []api.Item{wordsOf("d", 4095), wordsOf("e", 1)}, true},
		{"too many words in two", []api.Item{wordsOf("d", 4096), wordsOf("e", 1)}, false},
		{"too many words in two again", []api.Item{wordsOf("d", 1), wordsOf("e", 4096)}, false},
		{"far too many words", func() []api.Item {
			l := []api.Item{}
			w := make([]int64, 4096)
			for k := range 900 {
				l = append(l, api.Item{Kind: api.ItemWords, Name: "d" + strconv.Itoa(k), Words: w})
			}
			return l
		}(), false},
		{"all symbols: words", numbered(api.ItemWords, 1000), true},
		{"too many symbols: words", numbered(api.ItemWords, 1001), false},
		{"all symbols: globals", slices.Concat(numbered(api.ItemGlobal, 1000), ret), true},
		{"too many symbols: globals", slices.Concat(numbered(api.ItemGlobal, 1001), ret), false},
		{"all symbols: threads", slices.Concat(numbered(api.ItemThread, 1000), ret), true},
		{"too many symbols: threads", slices.Concat(numbered(api.ItemThread, 1001), ret), false},
		{"all symbols: of each", slices.Concat(numbered(api.ItemThread, 300), numbered(api.ItemGlobal, 300), numbered(api.ItemWords, 400), ret), true},
		{"too many symbols: of each", slices.Concat(numbered(api.ItemThread, 300), numbered(api.ItemGlobal, 300), numbered(api.ItemWords, 401), ret), false},
		{"labels are no symbols", slices.Concat(numbered(api.ItemWords, 1000), []api.Item{label("x"), label("y")}), true},
		{"all relocations: addresses", repeat(8000, to(api.ADR, "d")), true},
		{"too many relocations: addresses", repeat(8001, to(api.ADR, "d")), false},
		{"all relocations: calls", repeat(8000, to(api.CALL, "f")), true},
		{"too many relocations: calls", repeat(8001, to(api.CALL, "f")), false},
		{"all relocations: both", slices.Concat(repeat(5000, to(api.CALL, "f")), repeat(3000, to(api.ADR, "f"))), true},
		{"too many relocations: both", slices.Concat(repeat(5000, to(api.CALL, "f")), repeat(3001, to(api.ADR, "f"))), false},
		{"calls to labels are none", slices.Concat(repeat(8000, to(api.CALL, "f")), repeat(1000, to(api.CALL, "x")), jump), true},
		{"calls to words are some", slices.Concat(repeat(8000, to(api.CALL, "f")), repeat(1, to(api.CALL, "d")), []api.Item{wordsOf("d", 1)}), false},
		{"addresses of labels are some", slices.Concat(repeat(8000, to(api.CALL, "f")), repeat(1, to(api.ADR, "x")), jump), false},
		{"all of everything", slices.Concat(repeat(8000, to(api.CALL, "f")), codeItems(25536), numbered(api.ItemWords, 999), []api.Item{wordsOf("d", 3097)}), true},
	} {
		o, e := asm.Assemble(c.l)
		want := api.Object{}
		if c.good {
			want = model(t, c.l, growing)
		}
		if (e == api.OK) != c.good || e != api.OK && e != api.ErrLarge || !same(o, want) {
			t.Errorf("P10.1, R3: %s: %d bytes, %d words, %d symbols, %d relocations, error %d", c.name, len(o.Code), len(o.Data), len(o.Syms), len(o.Relocs), e)
		}
	}
}

// A text of Text has errors of its own ahead of all others.
func TestErrorsOfTexts(t *testing.T) {
	for s, want := range map[string]api.Errno{
		"what":                              api.ErrSyntax,
		"x:\nx:\nwhat":                      api.ErrSyntax,
		"jmp y\nmov r1":                     api.ErrSyntax,
		strings.Repeat("ret\n", 20001):      api.ErrSyntax,
		strings.Repeat(" ", 200001):         api.ErrLarge,
		strings.Repeat("what\n", 50000):     api.ErrLarge,
		strings.Repeat("x:\nx:\n", 40000):   api.ErrLarge,
		strings.Repeat(" ", 200000):         api.OK,
		strings.Repeat("ret\n", 20000):      api.OK,
		" x: # so\n\n jmp  x # so\n# jmp y": api.OK,
	} {
		o, e := asm.Text(s)
		if e != want || want != api.OK && !same(o, api.Object{}) {
			t.Errorf("P10.2, R3: %.40q: error %d, want %d", s, e, want)
		}
	}
	wantCode(t, " x: # so\n\n jmp  x # so\n# jmp y", "\x19\xfe")
}
