package asmtext_test

import (
	"math"
	"slices"
	"strconv"
	"strings"
	"testing"

	"cotter/api"
	"cotter/asmtext"
)

// The calls have the types that the chapter lists.
var (
	_ func([]api.Item) api.Errno           = asmtext.Check
	_ func(string) ([]api.Item, api.Errno) = asmtext.Parse
	_ func([]api.Item) (string, api.Errno) = asmtext.Print
)

func sameItem(a api.Item, b api.Item) bool {
	return a.Kind == b.Kind && a.Name == b.Name && a.Ins == b.Ins && slices.Equal(a.Words, b.Words)
}

func same(a []api.Item, b []api.Item) bool {
	return slices.EqualFunc(a, b, sameItem)
}

// wantBoth wants items that may be, and their text, to be turned into one another.
func wantBoth(t *testing.T, l []api.Item, s string) {
	t.Helper()
	if e := asmtext.Check(l); e != api.OK {
		t.Errorf("P9.1: %.60v: error %d", l, e)
	}
	if got, e := asmtext.Print(l); got != s || e != api.OK {
		t.Errorf("P9.3: %.60v: %.60q, error %d; want %.60q", l, got, e, s)
	}
	wantItems(t, s, l)
}

func wantItems(t *testing.T, s string, l []api.Item) {
	t.Helper()
	if got, e := asmtext.Parse(s); !same(got, l) || e != api.OK {
		t.Errorf("P9.2: %.60q: %.60v, error %d; want %.60v", s, got, e, l)
	}
}

func wantNoItems(t *testing.T, l []api.Item) {
	t.Helper()
	if e := asmtext.Check(l); e != api.ErrArg {
		t.Errorf("P9.1: %.60v: error %d", l, e)
	}
	if s, e := asmtext.Print(l); s != "" || e != api.ErrArg {
		t.Errorf("P9.3, R3: %.60v: %.60q, error %d", l, s, e)
	}
}

func wantNoText(t *testing.T, s string, want api.Errno) {
	t.Helper()
	if l, e := asmtext.Parse(s); len(l) != 0 || e != want {
		t.Errorf("P9.2, R3: %.60q of %d bytes: %d items, error %d; want %d", s, len(s), len(l), e, want)
	}
}

func named(kind int, name string) api.Item {
	return api.Item{Kind: kind, Name: name}
}

func words(name string, l ...int64) api.Item {
	return api.Item{Kind: api.ItemWords, Name: name, Words: l}
}

func ins(op int, a int, b int, n int64) api.Item {
	return api.Item{Kind: api.ItemIns, Ins: api.Ins{Op: op, A: a, B: b, N: n}}
}

func to(name string, op int, a int, n int64) api.Item {
	t := ins(op, a, 0, n)
	t.Name = name
	return t
}

type pair struct {
	item api.Item
	line string
}

// kinds has an item of each kind and instruction, in which nothing that the line says is zero.
func kinds() []pair {
	return []pair{
		{named(api.ItemLabel, "x"), "x:"},
		{named(api.ItemGlobal, "x.y"), ".global x.y"},
		{named(api.ItemThread, "_9"), ".thread _9"},
		{words("d", 1, -2, 0), ".words d 1 -2 0"},
		{ins(api.MOVI, 1, 0, -5), "movi r1 -5"},
		{ins(api.MOV, 1, 2, 0), "mov r1 r2"},
		{ins(api.ADD, 2, 1, 0), "add r2 r1"},
		{ins(api.SUB, 3, 4, 0), "sub r3 r4"},
		{ins(api.MUL, 5, 6, 0), "mul r5 r6"},
		{ins(api.DIV, 7, 1, 0), "div r7 r1"},
		{ins(api.REM, 1, 7, 0), "rem r1 r7"},
		{ins(api.AND, 1, 1, 0), "and r1 r1"},
		{ins(api.OR, 2, 3, 0), "or r2 r3"},
		{ins(api.XOR, 3, 2, 0), "xor r3 r2"},
		{ins(api.SHL, 4, 5, 0), "shl r4 r5"},
		{ins(api.SAR, 5, 4, 0), "sar r5 r4"},
		{ins(api.EQ, 6, 7, 0), "eq r6 r7"},
		{ins(api.NE, 7, 6, 0), "ne r7 r6"},
		{ins(api.LT, 1, 3, 0), "lt r1 r3"},
		{ins(api.LE, 3, 1, 0), "le r3 r1"},
		{ins(api.LD, 1, 2, 8), "ld r1 r2 8"},
		{ins(api.ST, 1, 2, -8), "st r1 -8 r2"},
		{ins(api.XCHG, 3, 4, 16), "xchg r3 16 r4"},
		{ins(api.XADD, 4, 3, -16), "xadd r4 -16 r3"},
		{to("d", api.ADR, 3, 24), "adr r3 d 24"},
		{to("x", api.JMP, 0, 0), "jmp x"},
		{to("x", api.JZ, 4, 0), "jz r4 x"},
		{to("x", api.JNZ, 5, 0), "jnz r5 x"},
		{to("f", api.CALL, 0, 0), "call f"},
		{ins(api.RET, 0, 0, 0), "ret"},
		{ins(api.FENCE, 0, 0, 0), "fence"},
		{ins(api.HALT, 0, 0, 0), "halt"},
		{ins(api.OUT, 6, 0, 0), "out r6"},
		{ins(api.TRAP, 0, 0, 7), "trap 7"},
	}
}

func TestEachLine(t *testing.T) {
	var all []api.Item
	var text strings.Builder
	for _, p := range kinds() {
		wantBoth(t, []api.Item{p.item}, p.line+"\n")
		wantItems(t, p.line, []api.Item{p.item})
		all = append(all, p.item)
		text.WriteString(p.line + "\n")
	}
	wantBoth(t, all, text.String())
	wantBoth(t, nil, "")
	wantBoth(t, []api.Item{}, "")
}

// An item whose list of words is empty, but not nil, is like one without.
func TestEmptyWords(t *testing.T) {
	for _, p := range kinds() {
		if p.item.Kind != api.ItemWords {
			p.item.Words = []int64{}
			wantBoth(t, []api.Item{p.item}, p.line+"\n")
		}
	}
}

func TestExamples(t *testing.T) {
	wantItems(t, "  mov r1 r2 # so", []api.Item{ins(api.MOV, 1, 2, 0)})
	wantItems(t, "x:", []api.Item{named(api.ItemLabel, "x")})
	for _, s := range []string{"mov r1", "mov r8 r1", "movi r1 007", "x :"} {
		wantNoText(t, s, api.ErrSyntax)
	}
}

func TestTooFewAndTooManyWords(t *testing.T) {
	for _, p := range kinds() {
		l := strings.Split(p.line, " ")
		for n := 1; n < len(l); n++ {
			if p.item.Kind == api.ItemWords && n > 2 {
				continue
			}
			wantNoText(t, strings.Join(l[:n], " "), api.ErrSyntax)
		}
		for _, more := range []string{"r1", "1", "x", "x:", "ret", ":"} {
			if p.item.Kind == api.ItemWords && more == "1" {
				continue
			}
			wantNoText(t, p.line+" "+more, api.ErrSyntax)
			wantNoText(t, "ret\n"+more+" "+p.line+"\nret\n", api.ErrSyntax)
		}
	}
}

// Each word of a line is put in each other one's place: the line is an item's only if the words are of the same kind.
func TestWordsOfOtherKinds(t *testing.T) {
	registers := []string{"r0", "r7"}
	numbers := []string{"0", "-1", "126"}
	names := []string{"x", "_", "r0", "r7", "r8", "r9", "r", "r01", "R1", "rr", "ret", "movi"}
	others := []string{"r-1", "1r", "-", "+1", "-0", "00", ":", ".", "x.y:", "$", "\t", "0x1"}
	const registerKind, numberKind, nameKind = 0, 1, 2
	shapes := map[string][]int{
		"movi": {registerKind, numberKind}, "add": {registerKind, registerKind}, "ld": {registerKind, registerKind, numberKind},
		"st": {registerKind, numberKind, registerKind}, "xchg": {registerKind, numberKind, registerKind}, "xadd": {registerKind, numberKind, registerKind},
		"adr": {registerKind, nameKind, numberKind}, "jmp": {nameKind}, "call": {nameKind}, "jz": {registerKind, nameKind}, "jnz": {registerKind, nameKind},
		"out": {registerKind}, ".global": {nameKind}, ".thread": {nameKind}, ".words": {nameKind, numberKind},
	}
	good := [][]string{registers, numbers, names}
	for first, shape := range shapes {
		for at, kind := range shape {
			line := []string{first}
			for _, k := range shape {
				line = append(line, good[k][0])
			}
			for _, w := range slices.Concat(registers, numbers, names, others) {
				line[1+at] = w
				s := strings.Join(line, " ")
				l, e := asmtext.Parse(s)
				if ok := slices.Contains(good[kind], w); ok && (e != api.OK || len(l) != 1) || !ok && (e != api.ErrSyntax || len(l) != 0) {
					t.Errorf("P9.2: %q: %v, error %d", s, l, e)
				}
			}
		}
	}
}

// nameItems has each item that has a name, with that one.
func nameItems(name string) []pair {
	return []pair{
		{named(api.ItemLabel, name), name + ":"},
		{named(api.ItemGlobal, name), ".global " + name},
		{named(api.ItemThread, name), ".thread " + name},
		{words(name, 5), ".words " + name + " 5"},
		{to(name, api.ADR, 0, 0), "adr r0 " + name + " 0"},
		{to(name, api.JMP, 0, 0), "jmp " + name},
		{to(name, api.JZ, 0, 0), "jz r0 " + name},
		{to(name, api.JNZ, 0, 0), "jnz r0 " + name},
		{to(name, api.CALL, 0, 0), "call " + name},
	}
}

// letters are the signs that may stand at a name's beginning, signs those that may stand behind it.
const (
	letters = "abcdefghijklmnopqrstuvwxyzABCDEFGHIJKLMNOPQRSTUVWXYZ_"
	signs   = letters + "0123456789."
)

func wantName(t *testing.T, name string, good bool) {
	t.Helper()
	for _, p := range nameItems(name) {
		if good {
			wantBoth(t, []api.Item{p.item}, p.line+"\n")
			continue
		}
		wantNoItems(t, []api.Item{p.item})
		if !strings.ContainsAny(name, " \n#") {
			wantNoText(t, p.line, api.ErrSyntax)
		}
	}
}

func TestNames(t *testing.T) {
	for b := range 256 {
		one := string([]byte{byte(b)})
		wantName(t, one, strings.Contains(letters, one))
		wantName(t, one+"x", strings.Contains(letters, one))
		wantName(t, "x"+one, strings.Contains(signs, one))
		wantName(t, "x"+one+"y", strings.Contains(signs, one))
		wantName(t, strings.Repeat("x", 27)+one, strings.Contains(signs, one))
	}
	for n := 1; n <= 40; n++ {
		wantName(t, strings.Repeat("n", n), n <= 28)
		wantName(t, "_"+strings.Repeat(".", n), n <= 27)
	}
	for _, name := range []string{"mov", "r1", "r8", "ret", "global", "words", "x..", "_0", "Z9.z_"} {
		wantName(t, name, true)
	}
	for _, name := range []string{"", ".", ".global", "9", "-1", "x-y", "é", "xé", "x:", ":", "x y", " x", "x ", "x\n", "x#y", strings.Repeat("n", 1000)} {
		wantName(t, name, false)
	}
}

// What cuts a line, cuts a name.
func TestNamesThatAreCut(t *testing.T) {
	wantItems(t, ".global x#y", []api.Item{named(api.ItemGlobal, "x")})
	wantItems(t, "jmp x\ny:", []api.Item{to("x", api.JMP, 0, 0), named(api.ItemLabel, "y")})
	wantNoText(t, "x y:", api.ErrSyntax)
	wantNoText(t, "x#y:", api.ErrSyntax)
	wantNoText(t, "x:y:", api.ErrSyntax)
	wantNoText(t, "x::", api.ErrSyntax)
	wantNoText(t, "x: y:", api.ErrSyntax)
	wantNoText(t, "x: ret", api.ErrSyntax)
	wantNoText(t, "x:ret", api.ErrSyntax)
}

func TestNumbers(t *testing.T) {
	for _, n := range []int64{0, 1, -1, 9, 10, -10, 100, 127, 128, 1 << 31, -1<<31 - 1, 1 << 62, math.MaxInt64 - 1, math.MaxInt64, math.MinInt64 + 1, math.MinInt64} {
		s := strconv.FormatInt(n, 10)
		wantBoth(t, []api.Item{ins(api.MOVI, 7, 0, n)}, "movi r7 "+s+"\n")
		wantBoth(t, []api.Item{words("d", 3, n, n)}, ".words d 3 "+s+" "+s+"\n")
	}
	for _, w := range []string{
		"-0", "00", "007", "-007", "01", "-01", "+1", "+0", "--1", "-", "+", "1-", "1-1", "1+", "0x1", "0b1", "0o7", "1_000", "1e3", "1.0", ".5", "1,", "1a", "a", "\x00", "1\x00", "1\t", "1\r", "\u0661", "\uff11", "\u22121", "nan",
		"9223372036854775808", "-9223372036854775809", "18446744073709551615", "18446744073709551616", "18446744073709551617", "-18446744073709551616", "340282366920938463463374607431768211457",
		"99999999999999999999", "-99999999999999999999", "0" + strings.Repeat("0", 1000), strings.Repeat("1", 1000), "09223372036854775807", "-09223372036854775808",
	} {
		wantNoText(t, "movi r1 "+w, api.ErrSyntax)
		wantNoText(t, ".words d "+w, api.ErrSyntax)
		wantNoText(t, ".words d 1 "+w+" 2", api.ErrSyntax)
		wantNoText(t, "ld r1 r2 "+w, api.ErrSyntax)
		wantNoText(t, "trap "+w, api.ErrSyntax)
	}
}

func wantNumber(t *testing.T, item api.Item, ahead string, behind string, n int64, good bool) {
	t.Helper()
	item.Ins.N = n
	line := ahead + strconv.FormatInt(n, 10) + behind
	if good {
		wantBoth(t, []api.Item{item}, line+"\n")
		return
	}
	wantNoItems(t, []api.Item{item})
	wantNoText(t, line, api.ErrSyntax)
}

func TestEdgesOfN(t *testing.T) {
	all := []int64{0, 1, -1, 126, 127, 128, 129, 255, 256, -127, -128, -129, 1<<31 - 2, 1<<31 - 1, 1 << 31, 1<<31 + 1, -1<<31 + 1, -1 << 31, -1<<31 - 1, 1<<32 - 1, 1 << 32, 1<<32 + 1, -1 << 32, math.MaxInt64, math.MinInt64}
	for _, c := range []struct {
		item   api.Item
		ahead  string
		behind string
		least  int64
		most   int64
	}{
		{ins(api.MOVI, 1, 0, 0), "movi r1 ", "", math.MinInt64, math.MaxInt64},
		{ins(api.LD, 1, 2, 0), "ld r1 r2 ", "", -1 << 31, 1<<31 - 1},
		{ins(api.ST, 1, 2, 0), "st r1 ", " r2", -1 << 31, 1<<31 - 1},
		{ins(api.XCHG, 1, 2, 0), "xchg r1 ", " r2", -1 << 31, 1<<31 - 1},
		{ins(api.XADD, 1, 2, 0), "xadd r1 ", " r2", -1 << 31, 1<<31 - 1},
		{to("d", api.ADR, 1, 0), "adr r1 d ", "", -1 << 31, 1<<31 - 1},
		{ins(api.TRAP, 0, 0, 0), "trap ", "", 0, 127},
	} {
		for _, n := range all {
			wantNumber(t, c.item, c.ahead, c.behind, n, n >= c.least && n <= c.most)
		}
	}
}

func TestRegisters(t *testing.T) {
	for r := range 12 {
		name := "r" + strconv.Itoa(r)
		for _, p := range []pair{
			{ins(api.MOV, r, 0, 0), "mov " + name + " r0"},
			{ins(api.MOV, 0, r, 0), "mov r0 " + name},
			{ins(api.LE, r, r, 0), "le " + name + " " + name},
			{ins(api.ST, 1, r, 0), "st r1 0 " + name},
			{ins(api.ST, r, 1, 0), "st " + name + " 0 r1"},
			{ins(api.LD, 1, r, 0), "ld r1 " + name + " 0"},
			{ins(api.MOVI, r, 0, 0), "movi " + name + " 0"},
			{ins(api.OUT, r, 0, 0), "out " + name},
			{to("x", api.JZ, r, 0), "jz " + name + " x"},
			{to("x", api.ADR, r, 0), "adr " + name + " x 0"},
		} {
			if r < 8 {
				wantBoth(t, []api.Item{p.item}, p.line+"\n")
				continue
			}
			wantNoItems(t, []api.Item{p.item})
			wantNoText(t, p.line, api.ErrSyntax)
		}
	}
	for _, r := range []int{-1, 8, 9, 10, 16, 255, 256, 257, 1 << 32, 1<<32 + 1, math.MaxInt, math.MinInt} {
		wantNoItems(t, []api.Item{ins(api.MOV, r, 0, 0)})
		wantNoItems(t, []api.Item{ins(api.MOV, 0, r, 0)})
		wantNoItems(t, []api.Item{ins(api.OUT, r, 0, 0)})
	}
	for _, w := range []string{"r", "r10", "r77", "r00", "r07", "R1", "r-1", "r+1", "r 1", "1", "r1r", "r1:", "x1", "r/", "r:", "r\u0661", "rr", "r\x01", "\x721\x00"} {
		wantNoText(t, "out "+w, api.ErrSyntax)
		wantNoText(t, "mov r1 "+w, api.ErrSyntax)
	}
}

func TestMnemonics(t *testing.T) {
	for _, p := range kinds() {
		first, rest, _ := strings.Cut(p.line, " ")
		if p.item.Kind == api.ItemLabel {
			continue
		}
		for _, w := range []string{strings.ToUpper(first), strings.ToUpper(first[:1]) + first[1:], first + "s", first + ".", first[:len(first)-1], "." + first, first + "\x00", "\xef\xbb\xbf" + first} {
			if w != first {
				wantNoText(t, strings.TrimSuffix(w+" "+rest, " "), api.ErrSyntax)
			}
		}
	}
	for _, s := range []string{"what", ".foo x", ".globals x", ".word d 1", "global x", "jmps x", "jzs r1 x", "jnzs r1 x", "1", "r1", ".", "-", ":", "nop", "movi,r1 5", "mov r1, r2", "mov r1,r2", "ret;", "ld r1 [r2]", "// ret", "; ret", "ret ret"} {
		wantNoText(t, s, api.ErrSyntax)
	}
}

func manyWords(n int) (api.Item, string) {
	t := words("d")
	var b strings.Builder
	b.WriteString(".words d")
	for k := range n {
		t.Words = append(t.Words, int64(k%10-5))
		b.WriteString(" " + strconv.Itoa(k%10-5))
	}
	return t, b.String() + "\n"
}

func TestHowManyWords(t *testing.T) {
	for _, n := range []int{0, 1, 2, 100, 4095, 4096, 4097, 4098, 8192} {
		item, line := manyWords(n)
		if n >= 1 && n <= 4096 {
			wantBoth(t, []api.Item{item}, line)
			wantBoth(t, []api.Item{item, item}, line+line)
			continue
		}
		wantNoItems(t, []api.Item{item})
		wantNoText(t, line, api.ErrSyntax)
	}
	wantNoItems(t, []api.Item{{Kind: api.ItemWords, Name: "d", Words: []int64{}}})
	wantNoText(t, ".words", api.ErrSyntax)
	wantNoText(t, ".words d", api.ErrSyntax)
	wantNoText(t, ".words d # 1", api.ErrSyntax)
	wantNoText(t, ".words d\n1", api.ErrSyntax)
	wantNoText(t, ".words 1 2", api.ErrSyntax)
}

// What a line does not say may not stand in its item: each field is set to each of several values.
func TestWhatTheLineDoesNotSay(t *testing.T) {
	bears := func(line string, field int) bool {
		first := strings.Fields(line)[0]
		has := map[string]string{"movi": "AN", "ld": "ABN", "st": "ABN", "xchg": "ABN", "xadd": "ABN", "adr": "AN@", "jmp": "@", "call": "@", "jz": "A@", "jnz": "A@", "out": "A", "trap": "N", "ret": "", "fence": "", "halt": ""}
		fields, ok := has[first]
		if !ok {
			fields = "AB"
		}
		return strings.Contains(fields, "ABN@"[field:field+1])
	}
	for _, p := range kinds() {
		isIns := p.item.Kind == api.ItemIns
		for field, change := range []func(*api.Item){
			func(x *api.Item) { x.Ins.A = 1 },
			func(x *api.Item) { x.Ins.B = 1 },
			func(x *api.Item) { x.Ins.N = 1 },
			func(x *api.Item) { x.Name = "other" },
		} {
			x := p.item
			change(&x)
			good := isIns && bears(p.line, field) || !isIns && field == 3
			if e := asmtext.Check([]api.Item{x}); (e == api.OK) != good || e != api.OK && e != api.ErrArg {
				t.Errorf("P9.1: %v: error %d", x, e)
			}
			if s, e := asmtext.Print([]api.Item{x}); (e == api.OK) != good || (s != "") != good {
				t.Errorf("P9.3: %v: %q, error %d", x, s, e)
			}
		}
		x := p.item
		if isIns {
			x.Words = []int64{0}
			wantNoItems(t, []api.Item{x})
			x.Words = []int64{4, 5}
			wantNoItems(t, []api.Item{x})
			continue
		}
		x.Ins.Op = api.RET
		wantNoItems(t, []api.Item{x})
		x.Ins.Op = -1
		wantNoItems(t, []api.Item{x})
		if x = p.item; x.Kind != api.ItemWords {
			x.Words = []int64{0}
			wantNoItems(t, []api.Item{x})
		}
	}
	for _, x := range []api.Item{named(api.ItemIns, ""), to("", api.JMP, 0, 0), to("", api.JZ, 1, 0), to("", api.JNZ, 1, 0), to("", api.CALL, 0, 0), to("", api.ADR, 1, 8), to("x", api.RET, 0, 0), to("x", api.MOVI, 0, 0), to("x", api.JMP, 0, -1), to("x", api.CALL, 0, math.MinInt64)} {
		wantNoItems(t, []api.Item{x})
	}
}

func TestNoSuchKind(t *testing.T) {
	for _, kind := range []int{0, -1, 6, 7, 255, 256 + api.ItemLabel, 1 << 32, 1<<32 + api.ItemIns, math.MaxInt, math.MinInt} {
		for _, p := range kinds() {
			p.item.Kind = kind
			wantNoItems(t, []api.Item{p.item})
		}
		wantNoItems(t, []api.Item{{Kind: kind}})
	}
	for _, op := range []int{0, -1, api.JMPS, api.JZS, api.JNZS, 34, 35, 255, 256 + api.RET, 1<<32 + api.RET, math.MaxInt, math.MinInt} {
		wantNoItems(t, []api.Item{ins(op, 0, 0, 0)})
		wantNoItems(t, []api.Item{to("x", op, 0, 0)})
		wantNoItems(t, []api.Item{to("x", op, 1, 0)})
	}
}

// One that may not be, anywhere among others, is enough.
func TestOneBadItem(t *testing.T) {
	for at := range 5 {
		l := slices.Repeat([]api.Item{ins(api.RET, 0, 0, 0)}, 5)
		l[at] = ins(api.RET, 1, 0, 0)
		wantNoItems(t, l)
		lines := slices.Repeat([]string{"ret"}, 5)
		lines[at] = "ret r1"
		wantNoText(t, strings.Join(lines, "\n"), api.ErrSyntax)
		wantNoText(t, strings.Join(lines, "\n")+"\n", api.ErrSyntax)
	}
}

func TestHowManyItems(t *testing.T) {
	ret := ins(api.RET, 0, 0, 0)
	full := slices.Repeat([]api.Item{ret}, 20000)
	wantBoth(t, full, strings.Repeat("ret\n", 20000))
	wantNoItems(t, append(slices.Clone(full), ret))
	wantNoText(t, strings.Repeat("ret\n", 20001), api.ErrSyntax)
	wantNoText(t, strings.Repeat("ret\n", 20000)+"ret", api.ErrSyntax)
	wantNoText(t, strings.Repeat("ret\n", 20000)+"what", api.ErrSyntax)
	wantNoItems(t, make([]api.Item, 20001))
	empty := strings.Repeat("ret\n", 20000) + strings.Repeat("\n # ret\n", 10000)
	wantItems(t, empty, full)
	wantItems(t, strings.Repeat("\n", 100000)+strings.Repeat("ret\n", 20000), full)
	mixed := slices.Repeat([]api.Item{named(api.ItemLabel, "x"), ret}, 10000)
	wantBoth(t, mixed, strings.Repeat("x:\nret\n", 10000))
	wantNoItems(t, append(mixed, named(api.ItemLabel, "x")))
	wantNoText(t, strings.Repeat("x:\nret\n", 10000)+"x:", api.ErrSyntax)
}

func TestHowLongTextsMayBe(t *testing.T) {
	for _, c := range []struct {
		fill string
		item string
		n    int
	}{{" ", "ret", 1}, {"\n", "ret", 1}, {"#", "", 0}, {" ", "", 0}, {"\n", "", 0}, {"# ret\n", "halt\n", 1}} {
		fill := strings.Repeat(c.fill, 200000)
		s := c.item + fill[:200000-len(c.item)]
		if l, e := asmtext.Parse(s); len(l) != c.n || e != api.OK {
			t.Errorf("P9.2: 200000 bytes, %q: %d items, error %d", c.fill, len(l), e)
		}
		wantNoText(t, s+" ", api.ErrLarge)
		wantNoText(t, " "+s, api.ErrLarge)
		wantNoText(t, s+s, api.ErrLarge)
	}
	wrong := strings.Repeat("what\n", 40000)
	wantNoText(t, wrong, api.ErrSyntax)
	wantNoText(t, wrong+"\n", api.ErrLarge)
	wantNoText(t, strings.Repeat("x", 200000), api.ErrSyntax)
	wantNoText(t, strings.Repeat("x", 200001), api.ErrLarge)
	wantNoText(t, "movi r1 "+strings.Repeat("9", 199992), api.ErrSyntax)
}

// longItems has so many bytes of text, of which all lines but the last two have as many as a label's may have.
func longItems(n int) ([]api.Item, string) {
	var l []api.Item
	var b strings.Builder
	add := func(size int) {
		name := strings.Repeat("n", size-len(":\n"))
		l = append(l, named(api.ItemLabel, name))
		b.WriteString(name + ":\n")
	}
	for range n/30 - 1 {
		add(30)
	}
	left := n - b.Len()
	add(left / 2)
	add(left - left/2)
	return l, b.String()
}

func TestHowLongAPrintMayBe(t *testing.T) {
	for n := 199990; n <= 200010; n++ {
		l, s := longItems(n)
		if len(s) != n {
			t.Fatalf("a text of %d bytes, not of %d", len(s), n)
		}
		if n <= 200000 {
			wantBoth(t, l, s)
			continue
		}
		if e := asmtext.Check(l); e != api.OK {
			t.Errorf("P9.1: items of a text of %d bytes: error %d", n, e)
		}
		if got, e := asmtext.Print(l); got != "" || e != api.ErrLarge {
			t.Errorf("P9.3, R3: a text of %d bytes: %d bytes, error %d", n, len(got), e)
		}
		wantNoText(t, s, api.ErrLarge)
		wantNoItems(t, append(l, api.Item{}))
		wantNoItems(t, append([]api.Item{{}}, l...))
	}
}

// Items of one call may share their words, so that their text would be far beyond memory.
func TestPrintOfVeryMuch(t *testing.T) {
	w := slices.Repeat([]int64{math.MinInt64}, 4096)
	l := slices.Repeat([]api.Item{words("d", w...)}, 20000)
	if e := asmtext.Check(l); e != api.OK {
		t.Errorf("P9.1: error %d", e)
	}
	if s, e := asmtext.Print(l); s != "" || e != api.ErrLarge {
		t.Errorf("P9.3: %d bytes, error %d", len(s), e)
	}
	l[19999].Words = nil
	wantNoItems(t, l)
}

func TestNotesSpacesAndEmptyLines(t *testing.T) {
	mov, ret := ins(api.MOV, 1, 2, 0), ins(api.RET, 0, 0, 0)
	for s, want := range map[string][]api.Item{
		"":                                   nil,
		"\n":                                 nil,
		" ":                                  nil,
		"#":                                  nil,
		"##":                                 nil,
		"# what is it?\x00\xff\t":            nil,
		"   \n \n\n# so\n   # so\n":          nil,
		"mov r1 r2":                          {mov},
		"   mov   r1    r2   ":               {mov},
		"mov r1 r2#":                         {mov},
		"mov r1 r2# so":                      {mov},
		"mov r1 r2 # so # so":                {mov},
		"mov r1 r2 #ret\nret":                {mov, ret},
		"mov r1 r2 # so\n\n\n  ret # so\n":   {mov, ret},
		"#mov r1 r2\nret":                    {ret},
		"\n\nret\n\n":                        {ret},
		"ret\nret\nret":                      {ret, ret, ret},
		"  x:  # here\n   .words  d  1   -2": {named(api.ItemLabel, "x"), words("d", 1, -2)},
		"jmp x#y":                            {to("x", api.JMP, 0, 0)},
		"ret#\xff\xfe":                       {ret},
		"# a note\r\nret":                    {ret},
	} {
		wantItems(t, s, want)
	}
	for _, s := range []string{"mov\tr1 r2", "\tret", "ret\t", "ret\r\n", "ret\r", "\r", "\t\n", "ret\v", "\x00", "ret\x00", "\u00a0ret", "ret\u2028", "\u0085", "mov#r1 r2", "mov r1 #r2", "ret\\\n", "mov r1\nr2", "mov\nr1\nr2", "\xff", "ret \xff", "\\# ret", "\"#\""} {
		wantNoText(t, s, api.ErrSyntax)
	}
}

func TestHandedInIsNotChanged(t *testing.T) {
	make5 := func() []api.Item {
		return []api.Item{words("d", 1, 2, 3), ins(api.MOV, 1, 2, 0), named(api.ItemLabel, "x"), words("spare", 4, 5), {Kind: -1}}
	}
	whole := make5()
	l := whole[:3]
	l[0].Words = l[0].Words[:2]
	asmtext.Check(l)
	s, _ := asmtext.Print(l)
	if want := make5(); !same(whole[1:], want[1:]) || !slices.Equal(whole[0].Words[:3], want[0].Words) {
		t.Errorf("R5: the items became %v", whole)
	}
	l[0].Words[0] = 9
	l[2].Name = "y"
	if s != ".words d 1 2\nmov r1 r2\nx:\n" {
		t.Errorf("R5: the text became %q", s)
	}
}

func TestAnsweredIsNewMemory(t *testing.T) {
	const s = ".words d 1 2 3\n.words e 4 5 6\nret\n.words f 7 8 9 10 11\n"
	a, _ := asmtext.Parse(s)
	b, _ := asmtext.Parse(s)
	want, _ := asmtext.Parse(s)
	for k := range a {
		spare := a[k].Words[:cap(a[k].Words)]
		for i := range spare {
			spare[i] = -1
		}
		// What was written must be all that changed, in this answer and the other one.
		for m := range a {
			if m > k && !sameItem(a[m], want[m]) || !sameItem(b[m], want[m]) {
				t.Errorf("R5: the words of item %d are shared", k)
			}
		}
	}
	clear(a[:cap(a)])
	if c, _ := asmtext.Parse(s); !same(b, want) || !same(c, want) {
		t.Errorf("R5: the answers share memory")
	}
	for _, x := range want[len(want):cap(want)] {
		if !sameItem(x, api.Item{}) {
			t.Errorf("R5: the spare room has %v", x)
		}
	}
	for _, x := range want {
		for _, n := range x.Words[len(x.Words):cap(x.Words)] {
			if n != 0 {
				t.Errorf("R5: the spare room of words has %d", n)
			}
		}
	}
}
