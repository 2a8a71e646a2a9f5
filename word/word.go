// Package word is layer 1, numbers: see shared/doc/01-word.md.
package word

import "cotter/api"

// lastGroup is the tenth group of seven bits, of which 64 bits leave room for one bit alone.
const lastGroup = 9

// Bin is what an instruction makes of two numbers.
func Bin(op int, a int64, b int64) (int64, api.Errno) {
	if op < api.ADD || op > api.LE {
		return 0, api.ErrArg
	}
	if b == 0 && (op == api.DIV || op == api.REM) {
		return 0, api.ErrDivide
	}
	if op >= api.EQ {
		return compare(op, a, b), api.OK
	}
	return compute(op, a, b), api.OK
}

// compute needs no case of its own for the least number by -1: the language's quotient wraps round to itself, with 0 left.
func compute(op int, a int64, b int64) int64 {
	count := uint64(b) & 63
	switch op {
	case api.ADD:
		return a + b
	case api.SUB:
		return a - b
	case api.MUL:
		return a * b
	case api.DIV:
		return a / b
	case api.REM:
		return a % b
	case api.AND:
		return a & b
	case api.OR:
		return a | b
	case api.XOR:
		return a ^ b
	case api.SHL:
		return a << count
	}
	return a >> count
}

func compare(op int, a int64, b int64) int64 {
	switch op {
	case api.EQ:
		return truth(a == b)
	case api.NE:
		return truth(a != b)
	case api.LT:
		return truth(a < b)
	}
	return truth(a <= b)
}

func truth(holds bool) int64 {
	if holds {
		return 1
	}
	return 0
}

// Bytes writes a number in so many bytes, Number reads one.
func Bytes(n int64, size int) (string, api.Errno) {
	if !isSize(size) {
		return "", api.ErrArg
	}
	if extend(uint64(n), size) != n {
		return "", api.ErrOverflow
	}
	b := make([]byte, size)
	for i := range b {
		b[i] = byte(n >> (8 * uint(i)))
	}
	return string(b), api.OK
}

func Number(s string) (int64, api.Errno) {
	if !isSize(len(s)) {
		return 0, api.ErrArg
	}
	var u uint64
	for i := len(s) - 1; i >= 0; i-- {
		u = u<<8 | uint64(s[i])
	}
	return extend(u, len(s)), api.OK
}

func isSize(size int) bool {
	return size == 1 || size == 4 || size == 8
}

// extend is the number, with its sign, that the lowest bytes of u are.
func extend(u uint64, size int) int64 {
	above := uint(64 - 8*size)
	return int64(u<<above) >> above
}

// Put writes a number in as few bytes as can be, Take reads one that begins at a place; and the place behind it.
func Put(u uint64) string {
	return string(appendGroups(nil, u))
}

func Take(s string, at int) (uint64, int, api.Errno) {
	if at < 0 || at > len(s) {
		return 0, 0, api.ErrArg
	}
	var u uint64
	for i := at; i < len(s); i++ {
		group, b := i-at, s[i]
		if group == lastGroup && b > 1 {
			return 0, 0, api.ErrObject
		}
		if group > 0 && b == 0 {
			return 0, 0, api.ErrObject
		}
		u |= uint64(b&127) << (7 * uint(group))
		if b < 128 {
			return u, i + 1, api.OK
		}
	}
	return 0, 0, api.ErrObject
}

// All puts several numbers behind one another.
func All(l ...uint64) string {
	var b []byte
	for _, u := range l {
		b = appendGroups(b, u)
	}
	return string(b)
}

func appendGroups(b []byte, u uint64) []byte {
	for u >= 128 {
		b = append(b, byte(u&127)+128)
		u >>= 7
	}
	return append(b, byte(u))
}
