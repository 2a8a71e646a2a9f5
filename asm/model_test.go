package asm_test

import (
	"encoding/binary"
	"math/bits"
	"math/rand"
	"slices"
	"strconv"
	"testing"

	"cotter/api"
	"cotter/asm"
	"cotter/asmtext"
	"cotter/ins"
	"cotter/objf"
)

// places are where each item begins, and where all code ends, if the items of long are long jumps.
func places(l []api.Item, long []bool) []int {
	at := []int{0}
	for k, t := range l {
		size := 0
		switch {
		case t.Kind != api.ItemIns:
		case t.Ins.Op == api.JMP && !long[k]:
			size = 2
		case (t.Ins.Op == api.JZ || t.Ins.Op == api.JNZ) && !long[k]:
			size = 3
		default:
			size = ins.Size(t.Ins.Op)
		}
		at = append(at, at[k]+size)
	}
	return at
}

func isJump(t api.Item) bool {
	return t.Kind == api.ItemIns && t.Ins.Op >= api.JMP && t.Ins.Op <= api.JNZ
}

func labelsOf(l []api.Item) map[string]int {
	labels := map[string]int{}
	for k, t := range l {
		if t.Kind == api.ItemLabel {
			labels[t.Name] = k
		}
	}
	return labels
}

// tooFar are the short jumps whose distance does not fit.
func tooFar(l []api.Item, labels map[string]int, long []bool) []int {
	at := places(l, long)
	var far []int
	for k, t := range l {
		if d := at[labels[t.Name]] - at[k+1]; isJump(t) && !long[k] && d != int(int8(d)) {
			far = append(far, k)
		}
	}
	return far
}

// growing finds the lengths one jump at a time, the last one first: the order makes no difference.
func growing(l []api.Item) []bool {
	long := make([]bool, len(l))
	labels := labelsOf(l)
	for far := tooFar(l, labels, long); len(far) > 0; far = tooFar(l, labels, long) {
		long[far[len(far)-1]] = true
	}
	return long
}

// least tries all lengths that there are, and takes the right ones with the fewest long jumps.
func least(t *testing.T, l []api.Item) []bool {
	var jumps []int
	for k, x := range l {
		if isJump(x) {
			jumps = append(jumps, k)
		}
	}
	labels := labelsOf(l)
	var best []bool
	fewest, ties := len(jumps)+1, 0
	for set := range uint(1) << len(jumps) {
		n := bits.OnesCount(set)
		if n > fewest {
			continue
		}
		long := make([]bool, len(l))
		for i, k := range jumps {
			long[k] = set>>i&1 == 1
		}
		if len(tooFar(l, labels, long)) > 0 {
			continue
		}
		if n == fewest {
			ties++
		} else {
			best, fewest, ties = long, n, 0
		}
	}
	if ties > 0 {
		t.Fatalf("the fewest long jumps are not the only ones: %v", l)
	}
	return best
}

func number4(n int) string {
	return string(binary.LittleEndian.AppendUint32(nil, uint32(n)))
}

// model is the object of items without a fault.
func model(t *testing.T, l []api.Item, lengths func([]api.Item) []bool) api.Object {
	t.Helper()
	long := lengths(l)
	at := places(l, long)
	labels := labelsOf(l)
	var o api.Object
	var code []byte
	for k, x := range l {
		to, isLabel := labels[x.Name]
		far := at[to] - at[k+1]
		switch {
		case x.Kind == api.ItemWords:
			o.Syms = append(o.Syms, api.Sym{Name: x.Name, Kind: api.SymData, At: len(o.Data)})
			o.Data = append(o.Data, x.Words...)
		case x.Kind == api.ItemGlobal:
			o.Syms = append(o.Syms, api.Sym{Name: x.Name, Kind: api.SymCode, At: at[to]})
		case x.Kind == api.ItemThread:
			o.Syms = append(o.Syms, api.Sym{Name: x.Name, Kind: api.SymThread, At: at[to]})
		case x.Kind == api.ItemLabel:
		case isJump(x):
			op := byte(x.Ins.Op)
			if !long[k] {
				op += api.JMPS - api.JMP
			}
			code = append(code, op)
			if x.Ins.Op != api.JMP {
				code = append(code, byte(x.Ins.A))
			}
			if long[k] {
				code = append(code, number4(far)...)
			} else {
				code = append(code, byte(far))
			}
		case x.Ins.Op == api.CALL && isLabel:
			code = append(code, "\x17"+number4(far)...)
		case x.Ins.Op == api.CALL:
			o.Relocs = append(o.Relocs, api.Reloc{At: len(code) + 1, Kind: api.RelJump, Name: x.Name})
			code = append(code, "\x17\x00\x00\x00\x00"...)
		case x.Ins.Op == api.ADR:
			o.Relocs = append(o.Relocs, api.Reloc{At: len(code) + 2, Kind: api.RelAddr, Name: x.Name, Add: x.Ins.N})
			code = append(code, 0x13, byte(x.Ins.A), 0, 0, 0, 0)
		default:
			s, e := ins.Encode(x.Ins)
			if e != api.OK {
				t.Fatalf("%v is no instruction", x)
			}
			code = append(code, s...)
		}
	}
	o.Code = string(code)
	return o
}

// randomItems has at most so many jumps, most of them nearly too far, and as many labels as it says, all at random; there is code behind all of them.
func randomItems(r *rand.Rand, jumps int, labels int) []api.Item {
	var l []api.Item
	name := func() string { return "x" + strconv.Itoa(r.Intn(labels)) }
	for k := range labels {
		l = append(l, label("x"+strconv.Itoa(k)))
	}
	for range jumps {
		x := to(api.JMP+r.Intn(3), name())
		if x.Ins.Op != api.JMP {
			x.Ins.A = r.Intn(8)
		}
		l = append(l, x)
	}
	for range r.Intn(40) {
		l = append(l, op(api.RET), op(api.MOV), op(api.MOVI))
	}
	for k := range r.Intn(3) {
		l = append(l, to(api.CALL, pickName(r, name)), to(api.ADR, pickName(r, name)))
		l = append(l, api.Item{Kind: api.ItemWords, Name: "d" + strconv.Itoa(k), Words: []int64{r.Int63(), 1}})
	}
	if r.Intn(2) == 0 {
		l = append(l, api.Item{Kind: api.ItemGlobal, Name: "x0"})
		if labels > 1 {
			l = append(l, api.Item{Kind: api.ItemThread, Name: "x1"})
		}
	}
	r.Shuffle(len(l), func(i int, j int) { l[i], l[j] = l[j], l[i] })
	return append(l, op(api.HALT))
}

// tightItems has so many jumps, each from one end to the other, that are nearly too far from one another.
func tightItems(r *rand.Rand, jumps int) []api.Item {
	var ends [2][]api.Item
	add := func(end int, x api.Item) {
		ends[end] = slices.Insert(ends[end], r.Intn(len(ends[end])+1), x)
	}
	for k := range jumps {
		name, end := "x"+strconv.Itoa(k), r.Intn(2)
		add(end, label(name))
		add(1-end, to(api.JMP+r.Intn(3), name))
		add(r.Intn(2), op(api.RET))
	}
	return slices.Concat(ends[0], repeat(128-3*jumps+r.Intn(2*jumps+1), op(api.RET)), ends[1])
}

func pickName(r *rand.Rand, name func() string) string {
	if r.Intn(2) == 0 {
		return "other"
	}
	return name()
}

func wantModel(t *testing.T, l []api.Item, lengths func([]api.Item) []bool) api.Object {
	t.Helper()
	want := model(t, l, lengths)
	got, e := asm.Assemble(l)
	if e != api.OK || !same(got, want) {
		s, _ := asmtext.Print(l)
		t.Fatalf("P10.1: %q: %v, error %d; want %v", s, got, e, want)
	}
	if e := objf.Check(got); e != api.OK {
		t.Fatalf("P10.3: %v may not be: error %d", got, e)
	}
	s, e := asmtext.Print(l)
	if e != api.OK {
		t.Fatalf("%v has no text: error %d", l, e)
	}
	if o, e := asm.Text(s); e != api.OK || !same(o, got) {
		t.Fatalf("P10.2: %q: %v, error %d; want %v", s, o, e, got)
	}
	if again, e := asm.Assemble(l); e != api.OK || !same(again, got) {
		t.Fatalf("R6: %v, then %v, error %d", got, again, e)
	}
	return got
}

func TestFewestLongJumps(t *testing.T) {
	r := rand.New(rand.NewSource(12))
	fewest := func(l []api.Item) []bool { return least(t, l) }
	mixed := 0
	for range 1000 {
		wantModel(t, randomItems(r, r.Intn(9), 1+r.Intn(6)), fewest)
		l := tightItems(r, r.Intn(10))
		wantModel(t, l, fewest)
		first := len(tooFar(l, labelsOf(l), make([]bool, len(l))))
		if n := count(growing(l)); n > first && n < 9 {
			mixed++
		}
	}
	if mixed < 100 {
		t.Errorf("only %d of 1000 texts have jumps that are long because others are", mixed)
	}
}

func count(l []bool) int {
	n := 0
	for _, b := range l {
		if b {
			n++
		}
	}
	return n
}

func TestManyJumpsAtRandom(t *testing.T) {
	r := rand.New(rand.NewSource(13))
	for range 1500 {
		wantModel(t, randomItems(r, r.Intn(80), 1+r.Intn(20)), growing)
		wantModel(t, tightItems(r, r.Intn(40)), growing)
	}
}

// renamed has other names for labels; symbols have them too.
func renamed(l []api.Item) []api.Item {
	labels := labelsOf(l)
	m := slices.Clone(l)
	for k, x := range m {
		if n, ok := labels[x.Name]; ok && x.Ins.Op != api.ADR {
			m[k].Name = "New_" + strconv.Itoa(n) + ".x"
		}
	}
	return m
}

func TestWhatLabelsAreCalled(t *testing.T) {
	r := rand.New(rand.NewSource(14))
	for range 1000 {
		l := randomItems(r, r.Intn(30), 1+r.Intn(10))
		a := wantModel(t, l, growing)
		m := renamed(l)
		b := wantModel(t, m, growing)
		if a.Code != b.Code || !slices.Equal(a.Data, b.Data) || !slices.Equal(a.Relocs, b.Relocs) || len(a.Syms) != len(b.Syms) {
			t.Fatalf("P10.3: other names: %v, not %v", b, a)
		}
		for k := range a.Syms {
			if a.Syms[k].Kind != b.Syms[k].Kind || a.Syms[k].At != b.Syms[k].At {
				t.Fatalf("P10.3: other names: %v, not %v", b.Syms, a.Syms)
			}
		}
		for k := range 5 {
			l = slices.Insert(l, r.Intn(len(l)+1), label("nobody"+strconv.Itoa(k)))
		}
		if c, e := asm.Assemble(l); e != api.OK || !same(a, c) {
			t.Fatalf("P10.3: labels that nobody names: %v, error %d; want %v", c, e, a)
		}
	}
}
