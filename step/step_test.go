package step_test

import (
	"math"
	"math/big"
	"testing"

	"cotter/api"
	"cotter/step"
	"cotter/word"
)

// The calls have the types that the chapter lists.
var (
	_ func(api.CPU, api.Ins, int) (api.CPU, api.Req) = step.Start
	_ func(api.CPU, api.Req, int64) api.CPU          = step.Finish
)

const (
	least    = math.MinInt64
	greatest = math.MaxInt64
)

// thread is one whose registers all differ, so that a wrong one is seen.
func thread() api.CPU {
	return api.CPU{R: [api.Regs]int64{0, 5, 2, -30, 40, 500, 6000, 64}, PC: 100}
}

// with turns registers, each named by its number and followed by its value; 8 is the PC.
func with(c api.CPU, l ...int64) api.CPU {
	for k := 0; k+1 < len(l); k += 2 {
		if l[k] == 8 {
			c.PC = l[k+1]
		} else {
			c.R[l[k]] = l[k+1]
		}
	}
	return c
}

func in(c api.CPU, state int, trap int64) api.CPU {
	c.State, c.Trap = state, trap
	return c
}

func TestStart(t *testing.T) {
	c := thread()
	for _, x := range []struct {
		name string
		i    api.Ins
		size int
		want api.CPU
		ask  api.Req
	}{
		{"movi", api.Ins{Op: api.MOVI, A: 3, N: -9}, 10, with(c, 8, 110, 3, -9), api.Req{}},
		{"movi of the stack's", api.Ins{Op: api.MOVI, A: 7, N: least}, 10, with(c, 8, 110, 7, least), api.Req{}},
		{"adr", api.Ins{Op: api.ADR, A: 0, N: 1 << 20}, 6, with(c, 8, 106, 0, 1<<20), api.Req{}},
		{"mov", api.Ins{Op: api.MOV, A: 3, B: 1}, 2, with(c, 8, 102, 3, 5), api.Req{}},
		{"mov of itself", api.Ins{Op: api.MOV, A: 6, B: 6}, 2, with(c, 8, 102), api.Req{}},
		{"add", api.Ins{Op: api.ADD, A: 1, B: 2}, 2, with(c, 8, 102, 1, 7), api.Req{}},
		{"add of itself", api.Ins{Op: api.ADD, A: 1, B: 1}, 2, with(c, 8, 102, 1, 10), api.Req{}},
		{"sub", api.Ins{Op: api.SUB, A: 1, B: 2}, 2, with(c, 8, 102, 1, 3), api.Req{}},
		{"mul", api.Ins{Op: api.MUL, A: 3, B: 2}, 2, with(c, 8, 102, 3, -60), api.Req{}},
		{"div", api.Ins{Op: api.DIV, A: 1, B: 2}, 2, with(c, 8, 102, 1, 2), api.Req{}},
		{"rem", api.Ins{Op: api.REM, A: 1, B: 2}, 2, with(c, 8, 102, 1, 1), api.Req{}},
		{"and", api.Ins{Op: api.AND, A: 1, B: 4}, 2, with(c, 8, 102, 1, 0), api.Req{}},
		{"or", api.Ins{Op: api.OR, A: 1, B: 2}, 2, with(c, 8, 102, 1, 7), api.Req{}},
		{"xor", api.Ins{Op: api.XOR, A: 7, B: 7}, 2, with(c, 8, 102, 7, 0), api.Req{}},
		{"shl", api.Ins{Op: api.SHL, A: 1, B: 2}, 2, with(c, 8, 102, 1, 20), api.Req{}},
		{"sar", api.Ins{Op: api.SAR, A: 3, B: 2}, 2, with(c, 8, 102, 3, -8), api.Req{}},
		{"eq", api.Ins{Op: api.EQ, A: 1, B: 2}, 2, with(c, 8, 102, 1, 0), api.Req{}},
		{"ne", api.Ins{Op: api.NE, A: 1, B: 2}, 2, with(c, 8, 102, 1, 1), api.Req{}},
		{"lt", api.Ins{Op: api.LT, A: 3, B: 0}, 2, with(c, 8, 102, 3, 1), api.Req{}},
		{"le", api.Ins{Op: api.LE, A: 1, B: 2}, 2, with(c, 8, 102, 1, 0), api.Req{}},
		{"div by 0", api.Ins{Op: api.DIV, A: 1, B: 0}, 2, in(c, api.Trapped, 1), api.Req{}},
		{"rem by 0", api.Ins{Op: api.REM, A: 1, B: 0}, 2, in(c, api.Trapped, 1), api.Req{}},
		{"div of 0 by itself", api.Ins{Op: api.DIV}, 2, in(c, api.Trapped, 1), api.Req{}},
		{"div of 0", api.Ins{Op: api.DIV, A: 0, B: 1}, 2, with(c, 8, 102, 0, 0), api.Req{}},
		{"ld", api.Ins{Op: api.LD, A: 3, B: 2, N: 6}, 6, with(c, 8, 106), api.Req{Kind: api.ReqLoad, Addr: 8, Reg: 3}},
		{"ld of the register 0", api.Ins{Op: api.LD, A: 0, B: 7, N: -8}, 6, with(c, 8, 106), api.Req{Kind: api.ReqLoad, Addr: 56}},
		{"st", api.Ins{Op: api.ST, A: 2, B: 1, N: 6}, 6, with(c, 8, 106), api.Req{Kind: api.ReqStore, Addr: 8, Value: 5}},
		{"xchg", api.Ins{Op: api.XCHG, A: 2, B: 1, N: 6}, 6, with(c, 8, 106), api.Req{Kind: api.ReqSwap, Addr: 8, Value: 5, Reg: 1}},
		{"xadd", api.Ins{Op: api.XADD, A: 5, B: 3, N: -4}, 6, with(c, 8, 106), api.Req{Kind: api.ReqAdd, Addr: 496, Value: -30, Reg: 3}},
		{"xadd of one register", api.Ins{Op: api.XADD, A: 7, B: 7}, 6, with(c, 8, 106), api.Req{Kind: api.ReqAdd, Addr: 64, Value: 64, Reg: 7}},
		{"jmp", api.Ins{Op: api.JMP, N: -5}, 5, with(c, 8, 100), api.Req{}},
		{"jmps", api.Ins{Op: api.JMPS, N: 9}, 2, with(c, 8, 111), api.Req{}},
		{"jz of 0", api.Ins{Op: api.JZ, A: 0, N: 50}, 6, with(c, 8, 156), api.Req{}},
		{"jz of 5", api.Ins{Op: api.JZ, A: 1, N: 50}, 6, with(c, 8, 106), api.Req{}},
		{"jz of -30", api.Ins{Op: api.JZ, A: 3, N: 50}, 6, with(c, 8, 106), api.Req{}},
		{"jnz of 0", api.Ins{Op: api.JNZ, A: 0, N: 50}, 6, with(c, 8, 106), api.Req{}},
		{"jnz of 5", api.Ins{Op: api.JNZ, A: 1, N: 50}, 6, with(c, 8, 156), api.Req{}},
		{"jnz of -30", api.Ins{Op: api.JNZ, A: 3, N: -50}, 6, with(c, 8, 56), api.Req{}},
		{"jzs of 0", api.Ins{Op: api.JZS, A: 0, N: 50}, 3, with(c, 8, 153), api.Req{}},
		{"jzs of 5", api.Ins{Op: api.JZS, A: 1, N: 50}, 3, with(c, 8, 103), api.Req{}},
		{"jnzs of 0", api.Ins{Op: api.JNZS, A: 0, N: 50}, 3, with(c, 8, 103), api.Req{}},
		{"jnzs of 5", api.Ins{Op: api.JNZS, A: 1, N: 50}, 3, with(c, 8, 153), api.Req{}},
		{"call", api.Ins{Op: api.CALL, N: 10}, 5, with(c, 8, 115, 7, 56), api.Req{Kind: api.ReqStore, Addr: 56, Value: 105}},
		{"call backward", api.Ins{Op: api.CALL, N: -105}, 5, with(c, 8, 0, 7, 56), api.Req{Kind: api.ReqStore, Addr: 56, Value: 105}},
		{"ret", api.Ins{Op: api.RET}, 1, with(c, 8, 101, 7, 72), api.Req{Kind: api.ReqLoad, Addr: 64, Reg: 8}},
		{"fence", api.Ins{Op: api.FENCE}, 1, with(c, 8, 101), api.Req{Kind: api.ReqFence}},
		{"out", api.Ins{Op: api.OUT, A: 1}, 2, with(c, 8, 102), api.Req{Kind: api.ReqOut, Value: 5}},
		{"halt", api.Ins{Op: api.HALT}, 1, in(with(c, 8, 101), api.Halted, 0), api.Req{Kind: api.ReqFence}},
		{"trap", api.Ins{Op: api.TRAP, N: 7}, 2, in(c, api.Trapped, 7), api.Req{}},
		{"trap 0", api.Ins{Op: api.TRAP}, 2, in(c, api.Trapped, 0), api.Req{}},
		{"trap with a number that has no form", api.Ins{Op: api.TRAP, N: least}, 2, in(c, api.Trapped, least), api.Req{}},
		{"an instruction without bytes", api.Ins{Op: api.FENCE}, 0, c, api.Req{Kind: api.ReqFence}},
		{"an instruction of fewer than none", api.Ins{Op: api.OUT, A: 2}, -3, with(c, 8, 97), api.Req{Kind: api.ReqOut, Value: 2}},
	} {
		if d, r := step.Start(c, x.i, x.size); d != x.want || r != x.ask {
			t.Errorf("P4.1: %s: %v, %v; want %v, %v", x.name, d, r, x.want, x.ask)
		}
	}
}

func TestStartExample(t *testing.T) {
	c := api.CPU{R: [api.Regs]int64{1: 5}, PC: 100}
	if d, r := step.Start(c, api.Ins{Op: api.OUT, A: 1}, 2); d != with(c, 8, 102) || r != (api.Req{Kind: api.ReqOut, Value: 5}) {
		t.Errorf("P4.1: out: %v, %v", d, r)
	}
	c.R[7] = 64
	if d, r := step.Start(c, api.Ins{Op: api.CALL, N: 10}, 5); d != with(c, 7, 56, 8, 115) || r != (api.Req{Kind: api.ReqStore, Addr: 56, Value: 105}) {
		t.Errorf("P4.1: call: %v, %v", d, r)
	}
}

func TestStartGoesRound(t *testing.T) {
	c := thread()
	for _, x := range []struct {
		name string
		c    api.CPU
		i    api.Ins
		size int
		want api.CPU
		ask  api.Req
	}{
		{"the next place", with(c, 8, greatest), api.Ins{Op: api.MOV}, 2, with(c, 8, least+1), api.Req{}},
		{"the next place below", with(c, 8, least), api.Ins{Op: api.MOV}, -1, with(c, 8, greatest), api.Req{}},
		{"a jump", with(c, 8, greatest-5), api.Ins{Op: api.JMP, N: 1}, 5, with(c, 8, least), api.Req{}},
		{"a jump by the greatest", c, api.Ins{Op: api.JMP, N: greatest}, 5, with(c, 8, least+104), api.Req{}},
		{"a jump by the least", with(c, 8, -6), api.Ins{Op: api.JMPS, N: least}, 5, with(c, 8, greatest), api.Req{}},
		{"an address", with(c, 2, greatest), api.Ins{Op: api.LD, A: 1, B: 2, N: 1}, 6, with(c, 2, greatest, 8, 106), api.Req{Kind: api.ReqLoad, Addr: least, Reg: 1}},
		{"an address below", with(c, 2, least), api.Ins{Op: api.ST, A: 2, B: 1, N: -8}, 6, with(c, 2, least, 8, 106), api.Req{Kind: api.ReqStore, Addr: greatest - 7, Value: 5}},
		{"an address by the greatest", with(c, 2, greatest), api.Ins{Op: api.XCHG, A: 2, B: 1, N: greatest}, 6, with(c, 2, greatest, 8, 106), api.Req{Kind: api.ReqSwap, Addr: -2, Value: 5, Reg: 1}},
		{"an address by the least", with(c, 2, least), api.Ins{Op: api.XADD, A: 2, B: 1, N: least}, 6, with(c, 2, least, 8, 106), api.Req{Kind: api.ReqAdd, Addr: 0, Value: 5, Reg: 1}},
		{"a sum", with(c, 1, greatest, 2, 1), api.Ins{Op: api.ADD, A: 1, B: 2}, 2, with(c, 1, least, 2, 1, 8, 102), api.Req{}},
		{"the stack's register at a call", with(c, 7, least+7), api.Ins{Op: api.CALL, N: 1}, 5, with(c, 7, greatest, 8, 106), api.Req{Kind: api.ReqStore, Addr: greatest, Value: 105}},
		{"the stack's register at a return", with(c, 7, greatest), api.Ins{Op: api.RET}, 1, with(c, 7, least+7, 8, 101), api.Req{Kind: api.ReqLoad, Addr: greatest, Reg: 8}},
		{"a call's next place", with(c, 8, greatest), api.Ins{Op: api.CALL, N: -1}, 5, with(c, 7, 56, 8, least+3), api.Req{Kind: api.ReqStore, Addr: 56, Value: least + 4}},
	} {
		if d, r := step.Start(x.c, x.i, x.size); d != x.want || r != x.ask {
			t.Errorf("P4.1: %s: %v, %v; want %v, %v", x.name, d, r, x.want, x.ask)
		}
	}
}

func TestStartIsWordsBin(t *testing.T) {
	numbers := []int64{least, least + 1, -64, -7, -1, 0, 1, 2, 63, 64, 65, 1 << 32, greatest}
	for op := api.ADD; op <= api.LE; op++ {
		for _, a := range numbers {
			for _, b := range numbers {
				c := with(thread(), 5, a, 6, b)
				n, e := word.Bin(op, a, b)
				want := with(c, 5, n, 8, 102)
				if e == api.ErrDivide {
					want = in(c, api.Trapped, 1)
				}
				if d, r := step.Start(c, api.Ins{Op: op, A: 5, B: 6}, 2); d != want || r != (api.Req{}) {
					t.Errorf("P4.1: %d of %d, %d: %v, %v; want %v", op, a, b, d, r, want)
				}
			}
		}
	}
}

func TestStartOfOneThatIsNotRunning(t *testing.T) {
	for _, state := range []int{api.Halted, api.Trapped, 3, -1, math.MinInt, math.MaxInt} {
		for op := -1; op <= 35; op++ {
			c := in(thread(), state, 9)
			if d, r := step.Start(c, api.Ins{Op: op, A: 1, B: 2, N: 3}, 6); d != c || r != (api.Req{}) {
				t.Errorf("P4.1, P4.3: state %d, instruction %d: %v, %v", state, op, d, r)
			}
		}
	}
}

func TestStartOfNoInstruction(t *testing.T) {
	c := thread()
	for _, op := range []int{math.MinInt, -256 + api.MOV, -1, 0, 34, 35, 255, 256 + api.MOV, 1<<32 + api.MOV, math.MaxInt} {
		if d, r := step.Start(c, api.Ins{Op: op, A: 1, B: 2, N: 3}, 6); d != c || r != (api.Req{}) {
			t.Errorf("P4.1: instruction %d: %v, %v", op, d, r)
		}
	}
}

// An instruction that does not name A or B does nothing all the same, if that is no register.
func TestStartOfNoRegister(t *testing.T) {
	c := thread()
	for op := api.MOVI; op <= api.TRAP; op++ {
		for _, reg := range []int{math.MinInt, -256, -8, -1, 8, 9, 16, 256, math.MaxInt} {
			for _, i := range []api.Ins{{Op: op, A: reg}, {Op: op, B: reg}, {Op: op, A: reg, B: reg, N: 1}, {Op: op, A: 7, B: reg}, {Op: op, A: reg, B: 7}} {
				if d, r := step.Start(c, i, 2); d != c || r != (api.Req{}) {
					t.Errorf("P4.1: %v: %v, %v", i, d, r)
				}
			}
		}
	}
}

// Of fields that an instruction does not name Start asks nothing, but that they are registers.
func TestStartOfFieldsNotNamed(t *testing.T) {
	c := thread()
	for _, x := range []struct {
		i, other api.Ins
	}{
		{api.Ins{Op: api.MOVI, A: 1, N: 2}, api.Ins{Op: api.MOVI, A: 1, B: 7, N: 2}},
		{api.Ins{Op: api.MOV, A: 1, B: 2}, api.Ins{Op: api.MOV, A: 1, B: 2, N: 9}},
		{api.Ins{Op: api.SUB, A: 1, B: 2}, api.Ins{Op: api.SUB, A: 1, B: 2, N: 9}},
		{api.Ins{Op: api.JMP, N: 2}, api.Ins{Op: api.JMP, A: 7, B: 6, N: 2}},
		{api.Ins{Op: api.JZS, A: 0, N: 2}, api.Ins{Op: api.JZS, A: 0, B: 6, N: 2}},
		{api.Ins{Op: api.CALL, N: 2}, api.Ins{Op: api.CALL, A: 3, B: 4, N: 2}},
		{api.Ins{Op: api.RET}, api.Ins{Op: api.RET, A: 3, B: 4, N: 9}},
		{api.Ins{Op: api.FENCE}, api.Ins{Op: api.FENCE, A: 3, B: 4, N: 9}},
		{api.Ins{Op: api.OUT, A: 1}, api.Ins{Op: api.OUT, A: 1, B: 4, N: 9}},
		{api.Ins{Op: api.HALT}, api.Ins{Op: api.HALT, A: 3, B: 4, N: 9}},
		{api.Ins{Op: api.TRAP, N: 2}, api.Ins{Op: api.TRAP, A: 3, B: 4, N: 2}},
	} {
		d, r := step.Start(c, x.i, 2)
		if e, q := step.Start(c, x.other, 2); e != d || q != r {
			t.Errorf("P4.1: %v: %v, %v; want %v, %v", x.other, e, q, d, r)
		}
	}
}

// sum adds numbers of any size, and cuts the sum to 64 bits with a sign.
func sum(l ...int64) int64 {
	z := new(big.Int)
	for _, n := range l {
		z.Add(z, big.NewInt(n))
	}
	z.And(z, new(big.Int).SetUint64(math.MaxUint64))
	return int64(z.Uint64())
}

// mayTurn tells which registers an instruction names as turned: A's number, 7, or none.
func mayTurn(i api.Ins) int {
	switch {
	case i.Op == api.MOVI || i.Op == api.ADR || i.Op >= api.MOV && i.Op <= api.LE:
		return i.A
	case i.Op == api.CALL || i.Op == api.RET:
		return api.Stack
	}
	return -1
}

func TestStartTurnsNoOther(t *testing.T) {
	for op := api.MOVI; op <= api.TRAP; op++ {
		for a := range api.Regs {
			for b := range api.Regs {
				for _, n := range []int64{least, -1, 0, 1, 8, greatest} {
					for _, zero := range []bool{false, true} {
						c := in(with(thread(), 0, 11, 7, greatest-3), api.Running, 77)
						if zero {
							c.R = [api.Regs]int64{}
						}
						turnsNoOther(t, c, api.Ins{Op: op, A: a, B: b, N: n})
					}
				}
			}
		}
	}
}

func turnsNoOther(t *testing.T, c api.CPU, i api.Ins) {
	t.Helper()
	d, r := step.Start(c, i, 6)
	for reg := range api.Regs {
		if reg != mayTurn(i) && d.R[reg] != c.R[reg] {
			t.Fatalf("P4.3: %v turns the register %d: %v", i, reg, d)
		}
	}
	if next := sum(c.PC, 6); d.State != api.Trapped && d.PC != next && d.PC != sum(next, i.N) {
		t.Fatalf("P4.1: %v goes to %d", i, d.PC)
	}
	if d.State != api.Trapped && d.Trap != c.Trap {
		t.Fatalf("P4.3: %v: Trap is %d", i, d.Trap)
	}
	if d.State == api.Trapped && (d.PC != c.PC || d.R != c.R || r != (api.Req{})) {
		t.Fatalf("P4.1: %v trapped: %v, %v", i, d, r)
	}
	if e, q := step.Start(c, i, 6); e != d || q != r {
		t.Fatalf("R6: %v, asked again: %v, %v", i, e, q)
	}
}

func TestFinish(t *testing.T) {
	c := thread()
	for _, kind := range []int{api.ReqLoad, api.ReqSwap, api.ReqAdd} {
		for reg := int64(0); reg <= 8; reg++ {
			for _, n := range []int64{least, -1, 0, 9, greatest} {
				r := api.Req{Kind: kind, Addr: 16, Value: 3, Reg: int(reg)}
				if d := step.Finish(c, r, n); d != with(c, reg, n) {
					t.Errorf("P4.2: %v with %d: %v", r, n, d)
				}
			}
		}
		for _, reg := range []int{math.MinInt, -256, -8, -1, 9, 10, 16, 256, 264, math.MaxInt} {
			if d := step.Finish(c, api.Req{Kind: kind, Reg: reg}, 9); d != c {
				t.Errorf("P4.2: kind %d, Reg %d: %v", kind, reg, d)
			}
		}
	}
	for _, kind := range []int{math.MinInt, -1, api.ReqNone, api.ReqStore, api.ReqFence, api.ReqOut, 7, 256 + api.ReqLoad, math.MaxInt} {
		for reg := -1; reg <= 9; reg++ {
			if d := step.Finish(c, api.Req{Kind: kind, Reg: reg}, 9); d != c {
				t.Errorf("P4.2: kind %d, Reg %d: %v", kind, reg, d)
			}
		}
	}
}

// The chapter names no state for Finish: what a thread asked for comes to it whatever its state is.
func TestFinishInAnyState(t *testing.T) {
	for _, state := range []int{api.Running, api.Halted, api.Trapped, 3} {
		c := in(thread(), state, 6)
		if d := step.Finish(c, api.Req{Kind: api.ReqLoad, Reg: 2}, 9); d != with(c, 2, 9) {
			t.Errorf("P4.2: state %d: %v", state, d)
		}
	}
}

// A call and a return come back behind the call, with the stack's register as it was.
func TestStartAndFinish(t *testing.T) {
	c := thread()
	d, r := step.Start(c, api.Ins{Op: api.CALL, N: 40}, 5)
	d = step.Finish(d, r, 1234)
	if d != with(c, 7, 56, 8, 145) {
		t.Errorf("P4.2: what a store is answered is taken: %v", d)
	}
	d, q := step.Start(d, api.Ins{Op: api.RET}, 1)
	if q.Addr != r.Addr {
		t.Errorf("P4.1: a return loads from %d, the call stored at %d", q.Addr, r.Addr)
	}
	if d = step.Finish(d, q, r.Value); d != with(c, 8, 105) {
		t.Errorf("P4.1, P4.2: behind call and return: %v", d)
	}
	d, r = step.Start(c, api.Ins{Op: api.XADD, A: 2, B: 7, N: 6}, 6)
	if d = step.Finish(d, r, 21); d != with(c, 7, 21, 8, 106) {
		t.Errorf("P4.1, P4.2: behind xadd: %v", d)
	}
	d, r = step.Start(c, api.Ins{Op: api.LD, A: 2, B: 2}, 6)
	if d = step.Finish(d, r, 22); d != with(c, 2, 22, 8, 106) {
		t.Errorf("P4.1, P4.2: behind ld: %v", d)
	}
}

func TestNothingHandedInIsChanged(t *testing.T) {
	c, i, r := thread(), api.Ins{Op: api.CALL, N: 4}, api.Req{Kind: api.ReqLoad, Reg: 3}
	d, _ := step.Start(c, i, 5)
	e := step.Finish(c, r, 9)
	if c != thread() || i != (api.Ins{Op: api.CALL, N: 4}) || r != (api.Req{Kind: api.ReqLoad, Reg: 3}) {
		t.Errorf("R5: what was handed in is changed: %v, %v, %v", c, i, r)
	}
	d.R[7], e.R[3] = 1, 1
	if again, _ := step.Start(c, i, 5); again.R[7] != 56 || step.Finish(c, r, 9).R[3] != 9 {
		t.Errorf("R5: answers share memory: %v", again)
	}
}
