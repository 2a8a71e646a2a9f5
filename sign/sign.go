// Package sign is which instructions the binary operators of sources stand for. It is no layer: what sources mean and what they are lowered to share it.
package sign

import "cotter/api"

// operators are those that always need both sides. Turned ones have no instruction of their own: they change the sides' places.
var operators = [...]struct {
	sign   string
	what   int
	turned bool
}{
	{"+", api.ADD, false},
	{"-", api.SUB, false},
	{"*", api.MUL, false},
	{"/", api.DIV, false},
	{"%", api.REM, false},
	{"&", api.AND, false},
	{"|", api.OR, false},
	{"^", api.XOR, false},
	{"<<", api.SHL, false},
	{">>", api.SAR, false},
	{"==", api.EQ, false},
	{"!=", api.NE, false},
	{"<", api.LT, false},
	{"<=", api.LE, false},
	{">", api.LT, true},
	{">=", api.LE, true},
}

// Of is an operator's instruction, and what it has on its two sides, if l and r stand on the operator's. The instruction is 0 of a sign that is no such operator.
func Of[T any](sign string, l T, r T) (int, T, T) {
	for _, o := range operators {
		switch {
		case o.sign != sign:
		case o.turned:
			return o.what, r, l
		default:
			return o.what, l, r
		}
	}
	return 0, l, r
}
