package word_test

import (
	"math"
	"math/big"
	"slices"
	"strings"
	"testing"

	"cotter/api"
	"cotter/word"
)

// The calls have the types that the chapter lists.
var (
	_ func(int, int64, int64) (int64, api.Errno) = word.Bin
	_ func(int64, int) (string, api.Errno)       = word.Bytes
	_ func(string) (int64, api.Errno)            = word.Number
	_ func(uint64) string                        = word.Put
	_ func(string, int) (uint64, int, api.Errno) = word.Take
	_ func(...uint64) string                     = word.All
)

var edges = []int64{math.MinInt64, math.MinInt64 + 1, -1 << 32, -1<<31 - 1, -1 << 31, -129, -128, -65, -64, -63, -8, -7, -2, -1, 0, 1, 2, 3, 7, 8, 62, 63, 64, 65, 127, 128, 1<<31 - 1, 1 << 31, 1 << 32, 0x0123456789abcdef, math.MaxInt64 - 1, math.MaxInt64}

func TestBin(t *testing.T) {
	for _, c := range []struct {
		name     string
		op       int
		a, b     int64
		want     int64
		wantCode api.Errno
	}{
		{"add", 3, 2, 3, 5, api.OK},
		{"add wraps round", 3, math.MaxInt64, 1, math.MinInt64, api.OK},
		{"sub", 4, 2, 5, -3, api.OK},
		{"sub wraps round", 4, math.MinInt64, 1, math.MaxInt64, api.OK},
		{"mul", 5, -3, 4, -12, api.OK},
		{"mul wraps round", 5, 1 << 62, 6, math.MinInt64, api.OK},
		{"div", 6, 7, 2, 3, api.OK},
		{"div is cut towards 0", 6, -7, 2, -3, api.OK},
		{"div by a negative one", 6, 7, -2, -3, api.OK},
		{"div of the least by -1", 6, math.MinInt64, -1, math.MinInt64, api.OK},
		{"div by 0", 6, 1, 0, 0, api.ErrDivide},
		{"div of 0 by 0", 6, 0, 0, 0, api.ErrDivide},
		{"rem", 7, 7, 2, 1, api.OK},
		{"rem has the sign of a", 7, -7, 2, -1, api.OK},
		{"rem by a negative one", 7, 7, -2, 1, api.OK},
		{"rem of the least by -1", 7, math.MinInt64, -1, 0, api.OK},
		{"rem by 0", 7, 1, 0, 0, api.ErrDivide},
		{"and", 8, -4, 7, 4, api.OK},
		{"or", 9, 5, 3, 7, api.OK},
		{"xor", 10, 5, 3, 6, api.OK},
		{"xor of signs", 10, -1, math.MaxInt64, math.MinInt64, api.OK},
		{"shl", 11, 3, 4, 48, api.OK},
		{"shl by 63", 11, 1, 63, math.MinInt64, api.OK},
		{"shl by 64 is by 0", 11, 5, 64, 5, api.OK},
		{"shl by -1 is by 63", 11, 1, -1, math.MinInt64, api.OK},
		{"sar", 12, 48, 4, 3, api.OK},
		{"sar keeps the sign", 12, -8, 1, -4, api.OK},
		{"sar by 65 is by 1", 12, -8, 65, -4, api.OK},
		{"sar by 63", 12, math.MinInt64, 63, -1, api.OK},
		{"sar by -64 is by 0", 12, -8, -64, -8, api.OK},
		{"eq", 13, 4, 4, 1, api.OK},
		{"eq of others", 13, 4, -4, 0, api.OK},
		{"ne", 14, 4, -4, 1, api.OK},
		{"ne of the same", 14, 4, 4, 0, api.OK},
		{"lt", 15, -1, 0, 1, api.OK},
		{"lt of the same", 15, 3, 3, 0, api.OK},
		{"lt of the greatest and the least", 15, math.MaxInt64, math.MinInt64, 0, api.OK},
		{"le", 16, -1, 0, 1, api.OK},
		{"le of the same", 16, 3, 3, 1, api.OK},
		{"le of a greater one", 16, 1, 0, 0, api.OK},
	} {
		if n, e := word.Bin(c.op, c.a, c.b); n != c.want || e != c.wantCode {
			t.Errorf("P1.1: %s: %d, error %d", c.name, n, e)
		}
	}
}

// exact is what Bin is to answer, worked out with numbers of any size.
func exact(op int, a int64, b int64) int64 {
	x, y, z := big.NewInt(a), big.NewInt(b), new(big.Int)
	count := uint(new(big.Int).And(y, big.NewInt(63)).Uint64())
	switch op {
	case api.ADD:
		z.Add(x, y)
	case api.SUB:
		z.Sub(x, y)
	case api.MUL:
		z.Mul(x, y)
	case api.DIV:
		z.Quo(x, y)
	case api.REM:
		z.Rem(x, y)
	case api.AND:
		z.And(x, y)
	case api.OR:
		z.Or(x, y)
	case api.XOR:
		z.Xor(x, y)
	case api.SHL:
		z.Lsh(x, count)
	case api.SAR:
		z.Rsh(x, count)
	default:
		order := x.Cmp(y)
		if op == api.EQ && order == 0 || op == api.NE && order != 0 || op == api.LT && order < 0 || op == api.LE && order <= 0 {
			z.SetInt64(1)
		}
	}
	z.And(z, new(big.Int).SetUint64(math.MaxUint64))
	return int64(z.Uint64())
}

func TestBinAtAllEdges(t *testing.T) {
	for op := 3; op <= 16; op++ {
		for _, a := range edges {
			for _, b := range edges {
				want, code := int64(0), api.ErrDivide
				if b != 0 || op != api.DIV && op != api.REM {
					want, code = exact(op, a, b), api.OK
				}
				if n, e := word.Bin(op, a, b); n != want || e != code {
					t.Errorf("P1.1: %d of %d, %d: %d, error %d; want %d, error %d", op, a, b, n, e, want, code)
				}
			}
		}
	}
}

func TestBinShiftsByLowestSixBits(t *testing.T) {
	for b := int64(-200); b <= 200; b++ {
		for _, op := range []int{api.SHL, api.SAR} {
			if n, e := word.Bin(op, -0x123456789, b); n != exact(op, -0x123456789, b) || e != api.OK {
				t.Errorf("P1.1: %d by %d: %d, error %d", op, b, n, e)
			}
		}
	}
}

func TestBinRefusesOtherOperations(t *testing.T) {
	ops := []int{math.MinInt, -3, -1, 0, 1, 2, 3 + 1<<32, math.MaxInt}
	for op := 17; op <= 40; op++ {
		ops = append(ops, op)
	}
	for _, op := range ops {
		for _, b := range []int64{0, 1, -1} {
			if n, e := word.Bin(op, 7, b); n != 0 || e != api.ErrArg {
				t.Errorf("P1.1: %d: %d, error %d", op, n, e)
			}
		}
	}
}

func TestBytes(t *testing.T) {
	for _, c := range []struct {
		n    int64
		size int
		want string
	}{
		{0, 1, "\x00"}, {1, 1, "\x01"}, {-1, 1, "\xff"}, {127, 1, "\x7f"}, {-128, 1, "\x80"},
		{0, 4, "\x00\x00\x00\x00"}, {-2, 4, "\xfe\xff\xff\xff"}, {0x01020304, 4, "\x04\x03\x02\x01"}, {1<<31 - 1, 4, "\xff\xff\xff\x7f"}, {-1 << 31, 4, "\x00\x00\x00\x80"},
		{128, 4, "\x80\x00\x00\x00"}, {0x0102030405060708, 8, "\x08\x07\x06\x05\x04\x03\x02\x01"},
		{math.MaxInt64, 8, "\xff\xff\xff\xff\xff\xff\xff\x7f"}, {math.MinInt64, 8, "\x00\x00\x00\x00\x00\x00\x00\x80"}, {-1, 8, "\xff\xff\xff\xff\xff\xff\xff\xff"},
	} {
		if s, e := word.Bytes(c.n, c.size); s != c.want || e != api.OK {
			t.Errorf("P1.2: Bytes of %d, %d: %q, error %d", c.n, c.size, s, e)
		}
		if n, e := word.Number(c.want); n != c.n || e != api.OK {
			t.Errorf("P1.2: Number of %q: %d, error %d", c.want, n, e)
		}
	}
}

func TestBytesAtTheEndsOfSizes(t *testing.T) {
	for _, c := range []struct {
		size        int
		least, most int64
	}{{1, -128, 127}, {4, -2147483648, 2147483647}} {
		for _, n := range []int64{c.least - 1, c.most + 1, 2*c.most + 1, 2*c.most + 2, math.MinInt64, math.MaxInt64} {
			if s, e := word.Bytes(n, c.size); s != "" || e != api.ErrOverflow {
				t.Errorf("P1.2: Bytes of %d, %d: %q, error %d", n, c.size, s, e)
			}
		}
		for _, n := range []int64{c.least, c.least + 1, -1, 0, 1, c.most - 1, c.most} {
			if s, e := word.Bytes(n, c.size); len(s) != c.size || e != api.OK {
				t.Errorf("P1.2: Bytes of %d, %d: %q, error %d", n, c.size, s, e)
			}
		}
	}
}

func TestBytesRefusesOtherSizes(t *testing.T) {
	for _, size := range []int{math.MinInt, -8, -4, -1, 0, 2, 3, 5, 6, 7, 9, 16, 32, 64, 1 + 1<<32, 8 + 1<<32, math.MaxInt} {
		for _, n := range []int64{0, 1, math.MaxInt64} { // ErrArg is named ahead of ErrOverflow
			if s, e := word.Bytes(n, size); s != "" || e != api.ErrArg {
				t.Errorf("P1.2: Bytes of %d, %d: %q, error %d", n, size, s, e)
			}
		}
	}
	for size := 0; size <= 20; size++ {
		n, e := word.Number(strings.Repeat("\x01", size))
		if size == 1 || size == 4 || size == 8 {
			if n == 0 || e != api.OK {
				t.Errorf("P1.2: Number of %d bytes: %d, error %d", size, n, e)
			}
		} else if n != 0 || e != api.ErrArg {
			t.Errorf("P1.2: Number of %d bytes: %d, error %d", size, n, e)
		}
	}
}

func TestNumberTurnsBytesBack(t *testing.T) {
	for _, size := range []int{1, 4, 8} {
		for _, n := range edges {
			s, e := word.Bytes(n, size)
			if e != api.OK {
				continue
			}
			if back, e := word.Number(s); back != n || e != api.OK {
				t.Errorf("P1.4: %d in %d bytes: %d, error %d", n, size, back, e)
			}
		}
	}
	for b := range 256 {
		s := string([]byte{byte(b)})
		n, e := word.Number(s)
		if e != api.OK || n != int64(int8(b)) {
			t.Errorf("P1.2: Number of %q: %d, error %d", s, n, e)
		}
		if back, e := word.Bytes(n, 1); back != s || e != api.OK {
			t.Errorf("P1.4: %q: %q, error %d", s, back, e)
		}
	}
}

var groups = []struct {
	u uint64
	s string
}{
	{0, "\x00"}, {1, "\x01"}, {127, "\x7f"}, {128, "\x80\x01"}, {129, "\x81\x01"}, {255, "\xff\x01"}, {256, "\x80\x02"}, {300, "\xac\x02"}, {16383, "\xff\x7f"}, {16384, "\x80\x80\x01"}, {1 << 21, "\x80\x80\x80\x01"},
	{1<<63 - 1, "\xff\xff\xff\xff\xff\xff\xff\xff\x7f"}, {1 << 63, "\x80\x80\x80\x80\x80\x80\x80\x80\x80\x01"}, {math.MaxUint64, "\xff\xff\xff\xff\xff\xff\xff\xff\xff\x01"},
}

func TestPutAndTake(t *testing.T) {
	for _, c := range groups {
		if s := word.Put(c.u); s != c.s {
			t.Errorf("P1.3: Put of %d: %q", c.u, s)
		}
		for _, ahead := range []string{"", "z", "\x80\x80"} {
			for _, behind := range []string{"", "\x00", "\x80", "\xff\xff"} {
				u, next, e := word.Take(ahead+c.s+behind, len(ahead))
				if u != c.u || next != len(ahead)+len(c.s) || e != api.OK {
					t.Errorf("P1.3: Take of %q behind %q, ahead of %q: %d, %d, error %d", c.s, ahead, behind, u, next, e)
				}
			}
		}
	}
}

func TestTakeTurnsPutBack(t *testing.T) {
	var l []uint64
	for bit := range 64 {
		u := uint64(1) << bit
		l = append(l, u-1, u, u+1, ^u, math.MaxUint64>>bit, 0xdeadbeefcafef00d>>bit)
	}
	for _, u := range l {
		s := word.Put(u)
		if want := max(1, (new(big.Int).SetUint64(u).BitLen()+6)/7); len(s) != want {
			t.Errorf("P1.3: Put of %d: %d bytes; want %d", u, len(s), want)
		}
		if back, next, e := word.Take(s, 0); back != u || next != len(s) || e != api.OK {
			t.Errorf("P1.4: %d: %d, %d, error %d", u, back, next, e)
		}
	}
}

func TestTakeRefusesOtherForms(t *testing.T) {
	nine := strings.Repeat("\x80", 9)
	full := strings.Repeat("\xff", 9)
	for _, s := range []string{
		"", "\x80", "\xff", "\x80\x80", nine, full, // no last group
		"\x80\x00", "\xac\x00", "\xff\x00", "\xac\x82\x00", "\x80\x80\x00", strings.Repeat("\x81", 8) + "\x00", nine + "\x00", full + "\x00", // a group too many
		nine + "\x02", full + "\x02", full + "\x03", nine + "\x7f", nine + "\x41", // 2^64 and above
		nine + "\x80", nine + "\x80\x00", nine + "\x81\x00", nine + "\x80\x01", full + "\x81\x01", full + "\xff\x7f", strings.Repeat("\x80", 64) + "\x01", strings.Repeat("\xff", 100),
	} {
		for _, ahead := range []string{"", "\x05", "\x81"} {
			if u, next, e := word.Take(ahead+s, len(ahead)); u != 0 || next != 0 || e != api.ErrObject {
				t.Errorf("P1.3: Take of %q behind %q: %d, %d, error %d", s, ahead, u, next, e)
			}
		}
	}
}

// Of all texts of one and two bytes Take takes those, and those alone, that begin with a Put.
func TestTakeOfAllShortTexts(t *testing.T) {
	for a := range 256 {
		for b := range 256 {
			s := string([]byte{byte(a), byte(b)})
			u, next, e := word.Take(s, 0)
			switch {
			case a < 128:
				if u != uint64(a) || next != 1 || e != api.OK {
					t.Fatalf("P1.3: Take of %q: %d, %d, error %d", s, u, next, e)
				}
			case b > 0 && b < 128:
				if u != uint64(a-128+128*b) || next != 2 || e != api.OK {
					t.Fatalf("P1.3: Take of %q: %d, %d, error %d", s, u, next, e)
				}
			default:
				if u != 0 || next != 0 || e != api.ErrObject {
					t.Fatalf("P1.3: Take of %q: %d, %d, error %d", s, u, next, e)
				}
			}
			if e == api.OK && word.Put(u) != s[:next] {
				t.Fatalf("P1.4: Put of %d: %q", u, word.Put(u))
			}
		}
	}
}

func TestTakeRefusesOtherPlaces(t *testing.T) {
	for _, s := range []string{"", "a", "\x80", "\x01\x02\x03"} {
		for _, at := range []int{math.MinInt, -2, -1, len(s) + 1, len(s) + 2, math.MaxInt} {
			if u, next, e := word.Take(s, at); u != 0 || next != 0 || e != api.ErrArg {
				t.Errorf("P1.3: Take of %q at %d: %d, %d, error %d", s, at, u, next, e)
			}
		}
		if u, next, e := word.Take(s, len(s)); u != 0 || next != 0 || e != api.ErrObject {
			t.Errorf("P1.3: Take of %q at its end: %d, %d, error %d", s, u, next, e)
		}
	}
}

func TestAll(t *testing.T) {
	var l []uint64
	want := ""
	for _, c := range groups {
		l = append(l, c.u)
		want += c.s
		if s := word.All(l...); s != want {
			t.Errorf("P1.3: All of %d: %q", l, s)
		}
		if s := word.All(c.u); s != c.s {
			t.Errorf("P1.3: All of %d: %q", c.u, s)
		}
	}
	if word.All() != "" || word.All(nil...) != "" || word.All([]uint64{}...) != "" {
		t.Error("P1.3: All of none")
	}
	for i := range l {
		if s := word.All(l[:i]...) + word.All(l[i:]...); s != want {
			t.Errorf("P1.4: All parted at %d: %q", i, s)
		}
	}
	at := 0
	for i, u := range l {
		got, next, e := word.Take(want, at)
		if got != u || e != api.OK {
			t.Errorf("P1.4: number %d of All: %d, error %d", i, got, e)
		}
		at = next
	}
	if at != len(want) {
		t.Errorf("P1.4: All is taken up to %d", at)
	}
}

func TestNothingIsChangedOrHangsOnMore(t *testing.T) {
	l := append(make([]uint64, 0, 8), 300, 0, 1)
	spare := l[:8]
	for i := 3; i < 8; i++ {
		spare[i] = 77
	}
	before := slices.Clone(spare)
	first := word.All(l...)
	if !slices.Equal(spare, before) {
		t.Errorf("R5: All changed its list: %d", spare)
	}
	l[0] = 1
	if first != "\xac\x02\x00\x01" {
		t.Errorf("R5: All kept its list: %q", first)
	}
	for range 3 {
		if s := word.All(300, 0, 1); s != first {
			t.Errorf("R6: All: %q", s)
		}
		if s, e := word.Bytes(-2, 4); s != "\xfe\xff\xff\xff" || e != api.OK {
			t.Errorf("R6: Bytes: %q, error %d", s, e)
		}
		if n, e := word.Bin(api.REM, -7, 2); n != -1 || e != api.OK {
			t.Errorf("R6: Bin: %d, error %d", n, e)
		}
	}
}
