package ins

import (
	"cotter/api"
	"cotter/word"
)

// form is what stands behind the byte Op.
type form struct {
	registers int  // how many there are, in one byte
	number    int  // the bytes of N
	natural   bool // N is not below 0
}

// The forms, by what they bear.
const (
	formNone = iota // of numbers that are no instruction's
	formBare
	formA
	formAB
	formN1
	formN4
	formAN1
	formAN4
	formAN8
	formABN4
	formTrap
)

var forms = [...]form{
	formNone: {},
	formBare: {},
	formA:    {registers: 1},
	formAB:   {registers: 2},
	formN1:   {number: 1},
	formN4:   {number: 4},
	formAN1:  {registers: 1, number: 1},
	formAN4:  {registers: 1, number: 4},
	formAN8:  {registers: 1, number: 8},
	formABN4: {registers: 2, number: 4},
	formTrap: {number: 1, natural: true},
}

// formNumbers are the instructions' forms; those that it does not name have formNone, which is 0.
var formNumbers = [...]int{
	api.MOVI:  formAN8,
	api.MOV:   formAB,
	api.ADD:   formAB,
	api.SUB:   formAB,
	api.MUL:   formAB,
	api.DIV:   formAB,
	api.REM:   formAB,
	api.AND:   formAB,
	api.OR:    formAB,
	api.XOR:   formAB,
	api.SHL:   formAB,
	api.SAR:   formAB,
	api.EQ:    formAB,
	api.NE:    formAB,
	api.LT:    formAB,
	api.LE:    formAB,
	api.LD:    formABN4,
	api.ST:    formABN4,
	api.ADR:   formAN4,
	api.JMP:   formN4,
	api.JZ:    formAN4,
	api.JNZ:   formAN4,
	api.CALL:  formN4,
	api.RET:   formBare,
	api.JMPS:  formN1,
	api.JZS:   formAN1,
	api.JNZS:  formAN1,
	api.XCHG:  formABN4,
	api.XADD:  formABN4,
	api.FENCE: formBare,
	api.OUT:   formA,
	api.HALT:  formBare,
	api.TRAP:  formTrap,
}

func formOf(op int) (form, bool) {
	if op < 0 || op >= len(formNumbers) || formNumbers[op] == formNone {
		return form{}, false
	}
	return forms[formNumbers[op]], true
}

func (f form) size() int {
	if f.registers == 0 {
		return 1 + f.number
	}
	return 2 + f.number
}

// bears tells whether the form has room for all that the instruction's fields say; how great N may be is another question.
func (f form) bears(i api.Ins) bool {
	if i.A != 0 && f.registers < 1 || i.B != 0 && f.registers < 2 || i.N != 0 && f.number == 0 {
		return false
	}
	return isRegister(i.A) && isRegister(i.B)
}

func isRegister(r int) bool {
	return r >= 0 && r < api.Regs
}

func (f form) writeRegisters(i api.Ins) string {
	switch f.registers {
	case 0:
		return ""
	case 1:
		return string([]byte{byte(i.A)})
	}
	return string([]byte{byte(16*i.A + i.B)})
}

func (f form) readRegisters(s string) (int, int, bool) {
	var a, b int
	switch f.registers {
	case 1:
		a = int(s[0])
	case 2:
		a, b = int(s[0]/16), int(s[0]%16)
	}
	return a, b, isRegister(a) && isRegister(b)
}

func (f form) writeNumber(n int64) (string, bool) {
	if f.number == 0 {
		return "", true
	}
	s, e := word.Bytes(n, f.number)
	return s, e == api.OK && f.allows(n)
}

func (f form) readNumber(s string) (int64, bool) {
	if f.number == 0 {
		return 0, true
	}
	n, e := word.Number(s)
	return n, e == api.OK && f.allows(n)
}

func (f form) allows(n int64) bool {
	return n >= 0 || !f.natural
}
