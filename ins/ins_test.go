package ins_test

import (
	"math"
	"slices"
	"strings"
	"testing"

	"cotter/api"
	"cotter/ins"
)

// The calls have the types that the chapter lists.
var (
	_ func(int) int                               = ins.Size
	_ func(api.Ins) (string, api.Errno)           = ins.Encode
	_ func(string, int) (api.Ins, int, api.Errno) = ins.Decode
	_ func(string) ([]api.Ins, api.Errno)         = ins.All
)

// shape is a line of the chapter's table: what stands behind Op, and the bytes in all.
type shape struct {
	a, b   bool
	number int
	size   int
}

// shapeOf holds the chapter's table, by numbers; nothing of it is taken from the package.
func shapeOf(op int) (shape, bool) {
	switch {
	case op == 1:
		return shape{a: true, number: 8, size: 10}, true
	case op >= 2 && op <= 16:
		return shape{a: true, b: true, size: 2}, true
	case op == 17 || op == 18 || op == 28 || op == 29:
		return shape{a: true, b: true, number: 4, size: 6}, true
	case op == 19 || op == 21 || op == 22:
		return shape{a: true, number: 4, size: 6}, true
	case op == 20 || op == 23:
		return shape{number: 4, size: 5}, true
	case op == 24 || op == 30 || op == 32:
		return shape{size: 1}, true
	case op == 25 || op == 33:
		return shape{number: 1, size: 2}, true
	case op == 26 || op == 27:
		return shape{a: true, number: 1, size: 3}, true
	case op == 31:
		return shape{a: true, size: 2}, true
	}
	return shape{}, false
}

const (
	firstOp = 1
	lastOp  = 33
	trapOp  = 33
)

// noOps are numbers that are no instruction's; some of them are one's in their lowest byte.
var noOps = []int{math.MinInt, math.MinInt + 1, -256 + 2, -2, -1, 0, 34, 35, 127, 128, 255, 256, 256 + 2, 1<<32 + 2, math.MaxInt}

var registers = []int{math.MinInt, -256, -16, -8, -1, 0, 1, 3, 6, 7, 8, 9, 15, 16, 255, 256, 257, math.MaxInt}

var numbers = []int64{math.MinInt64, math.MinInt64 + 1, -1<<32 - 1, -1 << 32, -1<<31 - 1, -1 << 31, -1<<31 + 1, -257, -256, -129, -128, -127, -2, -1, 0, 1, 2, 126, 127, 128, 129, 254, 255, 256, 1<<31 - 2, 1<<31 - 1, 1 << 31, 1<<32 - 1, 1 << 32, 0x0123456789abcdef, math.MaxInt64 - 1, math.MaxInt64}

func fits(op int, s shape, n int64) bool {
	if op == trapOp {
		return n >= 0 && n <= 127
	}
	switch s.number {
	case 1:
		return n >= -128 && n <= 127
	case 4:
		return n >= -2147483648 && n <= 2147483647
	}
	return true
}

func isRegister(r int) bool { return r >= 0 && r <= 7 }

// wanted is what Encode is to answer.
func wanted(i api.Ins) (string, api.Errno) {
	s, ok := shapeOf(i.Op)
	if !ok || !isRegister(i.A) || !isRegister(i.B) || !s.a && i.A != 0 || !s.b && i.B != 0 || s.number == 0 && i.N != 0 {
		return "", api.ErrArg
	}
	if !fits(i.Op, s, i.N) {
		return "", api.ErrOverflow
	}
	out := []byte{byte(i.Op)}
	if s.b {
		out = append(out, byte(i.A*16+i.B))
	} else if s.a {
		out = append(out, byte(i.A))
	}
	for k := range s.number {
		out = append(out, byte(uint64(i.N)>>(8*k)))
	}
	return string(out), api.OK
}

// each gives every instruction that has a form, with all registers and the numbers at and inside its ends.
func each(yield func(api.Ins, string) bool) {
	for op := firstOp; op <= lastOp; op++ {
		for a := range 8 {
			for b := range 8 {
				for _, n := range numbers {
					i := api.Ins{Op: op, A: a, B: b, N: n}
					if s, e := wanted(i); e == api.OK && !yield(i, s) {
						return
					}
				}
			}
		}
	}
}

func TestSize(t *testing.T) {
	want := []int{0, 10, 2, 2, 2, 2, 2, 2, 2, 2, 2, 2, 2, 2, 2, 2, 2, 6, 6, 6, 5, 6, 6, 5, 1, 2, 3, 3, 6, 6, 1, 2, 1, 2, 0}
	for op, n := range want {
		if got := ins.Size(op); got != n {
			t.Errorf("P3.1: Size of %d: %d, want %d", op, got, n)
		}
	}
	for op := -300; op <= 600; op++ {
		if s, _ := shapeOf(op); ins.Size(op) != s.size {
			t.Errorf("P3.1: Size of %d: %d, want %d", op, ins.Size(op), s.size)
		}
	}
	for _, op := range noOps {
		if n := ins.Size(op); n != 0 {
			t.Errorf("P3.1: Size of %d, which is no instruction: %d", op, n)
		}
	}
}

func TestEncode(t *testing.T) {
	for _, c := range []struct {
		name string
		i    api.Ins
		want string
		e    api.Errno
	}{
		{"movi", api.Ins{Op: api.MOVI, A: 3, N: 5}, "\x01\x03\x05\x00\x00\x00\x00\x00\x00\x00", api.OK},
		{"movi of -2", api.Ins{Op: api.MOVI, A: 7, N: -2}, "\x01\x07\xfe\xff\xff\xff\xff\xff\xff\xff", api.OK},
		{"movi of the least", api.Ins{Op: api.MOVI, N: math.MinInt64}, "\x01\x00\x00\x00\x00\x00\x00\x00\x00\x80", api.OK},
		{"movi of the greatest", api.Ins{Op: api.MOVI, N: math.MaxInt64}, "\x01\x00\xff\xff\xff\xff\xff\xff\xff\x7f", api.OK},
		{"mov", api.Ins{Op: api.MOV, A: 1, B: 2}, "\x02\x12", api.OK},
		{"add", api.Ins{Op: api.ADD, A: 0, B: 7}, "\x03\x07", api.OK},
		{"sub", api.Ins{Op: api.SUB, A: 7, B: 0}, "\x04\x70", api.OK},
		{"mul", api.Ins{Op: api.MUL}, "\x05\x00", api.OK},
		{"div", api.Ins{Op: api.DIV, A: 7, B: 7}, "\x06\x77", api.OK},
		{"rem", api.Ins{Op: api.REM, A: 6, B: 1}, "\x07\x61", api.OK},
		{"and", api.Ins{Op: api.AND, A: 5, B: 2}, "\x08\x52", api.OK},
		{"or", api.Ins{Op: api.OR, A: 4, B: 3}, "\x09\x43", api.OK},
		{"xor", api.Ins{Op: api.XOR, A: 3, B: 4}, "\x0a\x34", api.OK},
		{"shl", api.Ins{Op: api.SHL, A: 2, B: 5}, "\x0b\x25", api.OK},
		{"sar", api.Ins{Op: api.SAR, A: 1, B: 6}, "\x0c\x16", api.OK},
		{"eq", api.Ins{Op: api.EQ, A: 1, B: 1}, "\x0d\x11", api.OK},
		{"ne", api.Ins{Op: api.NE, A: 2, B: 2}, "\x0e\x22", api.OK},
		{"lt", api.Ins{Op: api.LT, A: 3, B: 3}, "\x0f\x33", api.OK},
		{"le", api.Ins{Op: api.LE, A: 4, B: 4}, "\x10\x44", api.OK},
		{"ld", api.Ins{Op: api.LD, A: 1, B: 2, N: -8}, "\x11\x12\xf8\xff\xff\xff", api.OK},
		{"st", api.Ins{Op: api.ST, A: 7, B: 6, N: 0x01020304}, "\x12\x76\x04\x03\x02\x01", api.OK},
		{"adr", api.Ins{Op: api.ADR, A: 1, N: 256}, "\x13\x01\x00\x01\x00\x00", api.OK},
		{"jmp", api.Ins{Op: api.JMP, N: 1}, "\x14\x01\x00\x00\x00", api.OK},
		{"jz", api.Ins{Op: api.JZ, A: 2, N: -1}, "\x15\x02\xff\xff\xff\xff", api.OK},
		{"jnz", api.Ins{Op: api.JNZ, A: 3, N: 1<<31 - 1}, "\x16\x03\xff\xff\xff\x7f", api.OK},
		{"call", api.Ins{Op: api.CALL, N: -1 << 31}, "\x17\x00\x00\x00\x80", api.OK},
		{"ret", api.Ins{Op: api.RET}, "\x18", api.OK},
		{"jmps", api.Ins{Op: api.JMPS, N: -128}, "\x19\x80", api.OK},
		{"jzs", api.Ins{Op: api.JZS, A: 5, N: -1}, "\x1a\x05\xff", api.OK},
		{"jnzs", api.Ins{Op: api.JNZS, A: 4, N: 127}, "\x1b\x04\x7f", api.OK},
		{"xchg", api.Ins{Op: api.XCHG, A: 1, B: 0, N: 8}, "\x1c\x10\x08\x00\x00\x00", api.OK},
		{"xadd", api.Ins{Op: api.XADD, A: 0, B: 1, N: 16}, "\x1d\x01\x10\x00\x00\x00", api.OK},
		{"fence", api.Ins{Op: api.FENCE}, "\x1e", api.OK},
		{"out", api.Ins{Op: api.OUT, A: 6}, "\x1f\x06", api.OK},
		{"halt", api.Ins{Op: api.HALT}, "\x20", api.OK},
		{"trap 0", api.Ins{Op: api.TRAP}, "\x21\x00", api.OK},
		{"trap 127", api.Ins{Op: api.TRAP, N: 127}, "\x21\x7f", api.OK},

		{"trap -1", api.Ins{Op: api.TRAP, N: -1}, "", api.ErrOverflow},
		{"trap -128", api.Ins{Op: api.TRAP, N: -128}, "", api.ErrOverflow},
		{"trap 128", api.Ins{Op: api.TRAP, N: 128}, "", api.ErrOverflow},
		{"jmps behind its end", api.Ins{Op: api.JMPS, N: 128}, "", api.ErrOverflow},
		{"jmps ahead of its beginning", api.Ins{Op: api.JMPS, N: -129}, "", api.ErrOverflow},
		{"jzs behind its end", api.Ins{Op: api.JZS, N: 128}, "", api.ErrOverflow},
		{"ld behind its end", api.Ins{Op: api.LD, N: 1 << 31}, "", api.ErrOverflow},
		{"call ahead of its beginning", api.Ins{Op: api.CALL, N: -1<<31 - 1}, "", api.ErrOverflow},

		{"A is 8", api.Ins{Op: api.MOV, A: 8}, "", api.ErrArg},
		{"B is 8", api.Ins{Op: api.MOV, B: 8}, "", api.ErrArg},
		{"A is below 0", api.Ins{Op: api.OUT, A: -1}, "", api.ErrArg},
		{"B is below 0", api.Ins{Op: api.ADD, A: 1, B: -1}, "", api.ErrArg},
		{"N that mov does not name", api.Ins{Op: api.MOV, N: 1}, "", api.ErrArg},
		{"A that ret does not name", api.Ins{Op: api.RET, A: 1}, "", api.ErrArg},
		{"B that out does not name", api.Ins{Op: api.OUT, B: 1}, "", api.ErrArg},
		{"N that halt does not name", api.Ins{Op: api.HALT, N: -1}, "", api.ErrArg},
		{"A that jmp does not name", api.Ins{Op: api.JMP, A: 1}, "", api.ErrArg},
		{"B that jz does not name", api.Ins{Op: api.JZ, B: 1}, "", api.ErrArg},
		{"A that trap does not name", api.Ins{Op: api.TRAP, A: 1}, "", api.ErrArg},
		{"none", api.Ins{}, "", api.ErrArg},
		{"34", api.Ins{Op: 34}, "", api.ErrArg},
		{"below 0", api.Ins{Op: -1}, "", api.ErrArg},

		{"a wrong register and a wrong N", api.Ins{Op: api.LD, A: 8, N: 1 << 31}, "", api.ErrArg},
		{"a field that is not named and a wrong N", api.Ins{Op: api.TRAP, B: 1, N: -1}, "", api.ErrArg},
		{"no instruction and a great N", api.Ins{Op: 34, N: math.MaxInt64}, "", api.ErrArg},
	} {
		if s, e := ins.Encode(c.i); s != c.want || e != c.e {
			t.Errorf("P3.2: %s: %x, error %d; want %x, error %d", c.name, s, e, c.want, c.e)
		}
	}
}

func TestEncodeAtAllEdges(t *testing.T) {
	for _, op := range append(noOps, ops()...) {
		for _, a := range registers {
			for _, b := range registers {
				for _, n := range numbers {
					i := api.Ins{Op: op, A: a, B: b, N: n}
					want, code := wanted(i)
					if s, e := ins.Encode(i); s != want || e != code {
						t.Fatalf("P3.2: %v: %x, error %d; want %x, error %d", i, s, e, want, code)
					}
				}
			}
		}
	}
}

func ops() []int {
	var l []int
	for op := firstOp; op <= lastOp; op++ {
		l = append(l, op)
	}
	return l
}

func TestDecodeTurnsEncodeBack(t *testing.T) {
	count := 0
	for i, want := range each {
		count++
		s, e := ins.Encode(i)
		if s != want || e != api.OK || len(s) != ins.Size(i.Op) {
			t.Fatalf("P3.4: Encode of %v: %x, error %d", i, s, e)
		}
		for _, around := range []struct{ ahead, behind string }{{"", ""}, {"z", "z"}, {"\x18\x02", "\x18"}, {"\xff\x00\x21", "\x88"}} {
			at := len(around.ahead)
			j, next, e := ins.Decode(around.ahead+s+around.behind, at)
			if j != i || next != at+len(s) || e != api.OK {
				t.Fatalf("P3.4: Decode of %x at %d: %v, %d, error %d; want %v", around.ahead+s+around.behind, at, j, next, e, i)
			}
		}
		if l, e := ins.All(s); e != api.OK || !slices.Equal(l, []api.Ins{i}) {
			t.Fatalf("P3.3: All of %x: %v, error %d", s, l, e)
		}
	}
	if count < 5000 {
		t.Errorf("P3.4: only %d instructions were asked", count)
	}
}

func TestDecode(t *testing.T) {
	for _, c := range []struct {
		name string
		s    string
		at   int
		want api.Ins
		next int
		e    api.Errno
	}{
		{"mov", "\x02\x12", 0, api.Ins{Op: api.MOV, A: 1, B: 2}, 2, api.OK},
		{"the second one", "\x18\x02\x12", 1, api.Ins{Op: api.MOV, A: 1, B: 2}, 3, api.OK},
		{"inside another one's form", "\x02\x20", 1, api.Ins{Op: api.HALT}, 2, api.OK},
		{"N with its sign", "\x19\xfe", 0, api.Ins{Op: api.JMPS, N: -2}, 2, api.OK},
		{"the last byte", "zz\x1e", 2, api.Ins{Op: api.FENCE}, 3, api.OK},

		{"of nothing", "", 0, api.Ins{}, 0, api.ErrObject},
		{"at the end", "\x02\x12", 2, api.Ins{}, 0, api.ErrObject},
		{"behind the end", "\x02\x12", 3, api.Ins{}, 0, api.ErrArg},
		{"behind nothing", "", 1, api.Ins{}, 0, api.ErrArg},
		{"below 0", "\x02\x12", -1, api.Ins{}, 0, api.ErrArg},
		{"far below", "\x02\x12", math.MinInt, api.Ins{}, 0, api.ErrArg},
		{"far behind", "\x02\x12", math.MaxInt, api.Ins{}, 0, api.ErrArg},
		{"below 0, of nothing", "", -1, api.Ins{}, 0, api.ErrArg},

		{"registers 8 8", "\x02\x88", 0, api.Ins{}, 0, api.ErrObject},
		{"A is 8", "\x02\x80", 0, api.Ins{}, 0, api.ErrObject},
		{"B is 8", "\x02\x78", 0, api.Ins{}, 0, api.ErrObject},
		{"B is 15", "\x02\x0f", 0, api.Ins{}, 0, api.ErrObject},
		{"one register, 8", "\x1f\x08", 0, api.Ins{}, 0, api.ErrObject},
		{"one register, as if there were two", "\x1f\x10", 0, api.Ins{}, 0, api.ErrObject},
		{"one register, 255", "\x1a\xff\x00", 0, api.Ins{}, 0, api.ErrObject},
		{"no instruction, 0", "\x00", 0, api.Ins{}, 0, api.ErrObject},
		{"no instruction, 34", "\x22", 0, api.Ins{}, 0, api.ErrObject},
		{"no instruction, 255", "\xff\x00\x00", 0, api.Ins{}, 0, api.ErrObject},
		{"trap 128", "\x21\x80", 0, api.Ins{}, 0, api.ErrObject},
		{"trap 255", "\x21\xff", 0, api.Ins{}, 0, api.ErrObject},
		{"cut short", "\x02", 0, api.Ins{}, 0, api.ErrObject},
		{"cut short ahead of its last byte", "\x14\x00\x00\x00", 0, api.Ins{}, 0, api.ErrObject},
	} {
		if i, next, e := ins.Decode(c.s, c.at); i != c.want || next != c.next || e != c.e {
			t.Errorf("P3.3: %s: %v, %d, error %d; want %v, %d, error %d", c.name, i, next, e, c.want, c.next, c.e)
		}
	}
}

func TestDecodeOfFormsCutShort(t *testing.T) {
	for _, s := range each {
		for n := range len(s) {
			if i, next, e := ins.Decode(s[:n], 0); i != (api.Ins{}) || next != 0 || e != api.ErrObject {
				t.Fatalf("P3.3: %x, cut to %d bytes: %v, %d, error %d", s, n, i, next, e)
			}
			if l, e := ins.All(s[:n]); n > 0 && (len(l) != 0 || e != api.ErrObject) {
				t.Fatalf("P3.3: All of %x, cut to %d bytes: %v, error %d", s, n, l, e)
			}
		}
	}
}

// holds asks that Decode of s at 0 answers what the chapter's table says, and that Encode turns it back.
func holds(t *testing.T, s string) {
	t.Helper()
	want, e := meant(s)
	i, next, got := ins.Decode(s, 0)
	if i != want || got != e {
		t.Fatalf("P3.3: %x: %v, error %d; want %v, error %d", s, i, got, want, e)
	}
	if got != api.OK {
		if next != 0 {
			t.Fatalf("R3: %x: the place %d beside an error", s, next)
		}
		return
	}
	if back, e := ins.Encode(i); e != api.OK || next != ins.Size(i.Op) || back != s[:next] {
		t.Fatalf("P3.4: %x is %v, whose form is %x, error %d", s, i, back, e)
	}
}

// meant reads s by the chapter's table.
func meant(s string) (api.Ins, api.Errno) {
	if s == "" {
		return api.Ins{}, api.ErrObject
	}
	i := api.Ins{Op: int(s[0])}
	f, ok := shapeOf(i.Op)
	if !ok || len(s) < f.size {
		return api.Ins{}, api.ErrObject
	}
	if f.b {
		i.A, i.B = int(s[1]>>4), int(s[1]&15)
	} else if f.a {
		i.A = int(s[1])
	}
	var u uint64
	for k := range f.number {
		u |= uint64(s[f.size-f.number+k]) << (8 * k)
	}
	switch f.number {
	case 1:
		i.N = int64(int8(u))
	case 4:
		i.N = int64(int32(u))
	case 8:
		i.N = int64(u)
	}
	if !isRegister(i.A) || !isRegister(i.B) || !fits(i.Op, f, i.N) {
		return api.Ins{}, api.ErrObject
	}
	return i, api.OK
}

func TestDecodeOfAllShortTexts(t *testing.T) {
	holds(t, "")
	for a := range 256 {
		holds(t, string([]byte{byte(a)}))
		for b := range 256 {
			holds(t, string([]byte{byte(a), byte(b)}))
			for _, c := range []byte{0, 1, 7, 8, 127, 128, 254, 255} {
				holds(t, string([]byte{byte(a), byte(b), c}))
				holds(t, string([]byte{byte(a), byte(b), c, 0, 0x80, c}))
				holds(t, string([]byte{byte(a), byte(b), c, 0xff, 0xff, 0xff, c, 1, 2, 3, 4}))
			}
		}
	}
}

// bytesOf makes bytes that look like none, the same ones each time.
func bytesOf(seed uint64, count int, below int) string {
	b := make([]byte, count)
	for i := range b {
		seed = seed*6364136223846793005 + 1442695040888963407
		b[i] = byte(int(seed>>33) % below)
	}
	return string(b)
}

func TestDecodeOfAnyBytes(t *testing.T) {
	for seed := range uint64(20) {
		s := bytesOf(seed, 500, 40+int(seed%4)*72)
		for at := range len(s) {
			holds(t, s[at:])
			want, e := meant(s[at:])
			i, next, got := ins.Decode(s, at)
			if i != want || got != e || e == api.OK && next != at+ins.Size(i.Op) || e != api.OK && next != 0 {
				t.Fatalf("P3.3: at %d: %v, %d, error %d; want %v, error %d", at, i, next, got, want, e)
			}
		}
	}
}

func TestAll(t *testing.T) {
	mov, ret := api.Ins{Op: api.MOV, A: 1, B: 2}, api.Ins{Op: api.RET}
	for _, c := range []struct {
		name string
		s    string
		want []api.Ins
		e    api.Errno
	}{
		{"of nothing", "", nil, api.OK},
		{"one", "\x18", []api.Ins{ret}, api.OK},
		{"two", "\x18\x02\x12", []api.Ins{ret, mov}, api.OK},
		{"the same ones again", "\x02\x12\x02\x12\x18\x18", []api.Ins{mov, mov, ret, ret}, api.OK},
		{"the last one cut short", "\x18\x02\x12\x02", nil, api.ErrObject},
		{"none behind the first", "\x18\x00", nil, api.ErrObject},
		{"none ahead of the last", "\x00\x18", nil, api.ErrObject},
		{"none in the middle", "\x18\x22\x18", nil, api.ErrObject},
		{"a register of 8", "\x18\x02\x08\x18", nil, api.ErrObject},
		{"trap 128", "\x18\x21\x80\x18", nil, api.ErrObject},
	} {
		if l, e := ins.All(c.s); !slices.Equal(l, c.want) || e != c.e {
			t.Errorf("P3.3: All: %s: %v, error %d", c.name, l, e)
		}
	}
}

func TestAllOfAllInstructions(t *testing.T) {
	var b strings.Builder
	var want []api.Ins
	for i, s := range each {
		want = append(want, i)
		b.WriteString(s)
	}
	code := b.String()
	if l, e := ins.All(code); !slices.Equal(l, want) || e != api.OK {
		t.Errorf("P3.3: All of %d instructions: %d, error %d", len(want), len(l), e)
	}
	if l, e := ins.All(code + "\x01"); len(l) != 0 || e != api.ErrObject {
		t.Errorf("P3.3: All with a byte behind that is no form: %d, error %d", len(l), e)
	}
	at := 0
	for _, i := range want {
		j, next, e := ins.Decode(code, at)
		if j != i || e != api.OK {
			t.Fatalf("P3.3: Decode at %d: %v, error %d; want %v", at, j, e, i)
		}
		at = next
	}
	if at != len(code) {
		t.Errorf("P3.3: the last place is %d, not %d", at, len(code))
	}
}

func TestAllIsEncodeOfEach(t *testing.T) {
	for seed := range uint64(200000) {
		s := bytesOf(seed, 1+int(seed%7), 35)
		l, e := ins.All(s)
		if e != api.OK {
			if len(l) != 0 || e != api.ErrObject {
				t.Fatalf("R3: All of %x: %v, error %d", s, l, e)
			}
			if _, _, ok := apart(s); ok {
				t.Fatalf("P3.3: All of %x: error %d, though it is put together of forms", s, e)
			}
			continue
		}
		back := ""
		for _, i := range l {
			one, _ := ins.Encode(i)
			back += one
		}
		if back != s {
			t.Fatalf("P3.4: All of %x: %v, whose forms are %x", s, l, back)
		}
	}
}

// apart goes along s by the chapter's table.
func apart(s string) (int, int, bool) {
	count, at := 0, 0
	for at < len(s) {
		i, e := meant(s[at:])
		if e != api.OK {
			return count, at, false
		}
		f, _ := shapeOf(i.Op)
		at += f.size
		count++
	}
	return count, at, true
}

func TestAllIsNewMemory(t *testing.T) {
	code := "\x18\x02\x12\x1e\x20\x21\x05"
	first, _ := ins.All(code)
	second, _ := ins.All(code)
	kept := slices.Clone(first)
	spoil(second)
	if !slices.Equal(first, kept) {
		t.Errorf("R5: two answers share memory: %v", first)
	}
	spoil(first)
	if third, e := ins.All(code); !slices.Equal(third, kept) || e != api.OK {
		t.Errorf("R5, R6: asked again: %v, error %d", third, e)
	}
}

// spoil writes over a list and over its spare room.
func spoil(l []api.Ins) {
	l = l[:cap(l)]
	for i := range l {
		l[i] = api.Ins{Op: 99, A: 99, B: 99, N: 99}
	}
}

func TestAskedAgain(t *testing.T) {
	for i, s := range each {
		a, _ := ins.Encode(i)
		ins.Decode("\x02\x88", 0)
		ins.Encode(api.Ins{Op: 34})
		b, _ := ins.Encode(i)
		if a != s || b != s {
			t.Fatalf("R6: Encode of %v: %x, then %x", i, a, b)
		}
	}
}
