package asmtext

import (
	"strings"

	"cotter/api"
)

// What stands behind a mnemonic, each as one sign of its row.
const (
	signA    = 'A' // the register A
	signB    = 'B' // the register B
	signN    = 'N' // the number N
	signName = '@'
)

// row is how an instruction's line is.
type row struct {
	mnemonic string
	behind   string // the signs of what stands behind it, in their order
}

// rows are those of the instructions, by their numbers; what has no line has an empty mnemonic.
var rows = [...]row{
	api.MOVI:  {"movi", "AN"},
	api.MOV:   {"mov", "AB"},
	api.ADD:   {"add", "AB"},
	api.SUB:   {"sub", "AB"},
	api.MUL:   {"mul", "AB"},
	api.DIV:   {"div", "AB"},
	api.REM:   {"rem", "AB"},
	api.AND:   {"and", "AB"},
	api.OR:    {"or", "AB"},
	api.XOR:   {"xor", "AB"},
	api.SHL:   {"shl", "AB"},
	api.SAR:   {"sar", "AB"},
	api.EQ:    {"eq", "AB"},
	api.NE:    {"ne", "AB"},
	api.LT:    {"lt", "AB"},
	api.LE:    {"le", "AB"},
	api.LD:    {"ld", "ABN"},
	api.ST:    {"st", "ANB"},
	api.ADR:   {"adr", "A@N"},
	api.JMP:   {"jmp", "@"},
	api.JZ:    {"jz", "A@"},
	api.JNZ:   {"jnz", "A@"},
	api.CALL:  {"call", "@"},
	api.RET:   {"ret", ""},
	api.XCHG:  {"xchg", "ANB"},
	api.XADD:  {"xadd", "ANB"},
	api.FENCE: {"fence", ""},
	api.OUT:   {"out", "A"},
	api.HALT:  {"halt", ""},
	api.TRAP:  {"trap", "N"},
}

func rowOf(op int) (row, bool) {
	if op < 0 || op >= len(rows) || rows[op].mnemonic == "" {
		return row{}, false
	}
	return rows[op], true
}

// opOf is the instruction of a mnemonic, which is not empty.
func opOf(mnemonic string) (int, bool) {
	for op, r := range rows {
		if r.mnemonic == mnemonic {
			return op, true
		}
	}
	return 0, false
}

func (r row) has(sign byte) bool {
	return strings.IndexByte(r.behind, sign) >= 0
}
