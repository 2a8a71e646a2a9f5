package asmtext

import (
	"math"

	"cotter/api"
)

const (
	maxName  = 28
	maxWords = 4096 // of one item
	mostTrap = 127
)

func mayBe(t api.Item) bool {
	switch t.Kind {
	case api.ItemLabel, api.ItemGlobal, api.ItemThread:
		return nameMayBe(t.Name) && len(t.Words) == 0 && t.Ins == api.Ins{}
	case api.ItemWords:
		return nameMayBe(t.Name) && len(t.Words) >= 1 && len(t.Words) <= maxWords && t.Ins == api.Ins{}
	case api.ItemIns:
		return insMayBe(t) && len(t.Words) == 0
	}
	return false
}

// insMayBe tells, too, whether what the line does not say is zero.
func insMayBe(t api.Item) bool {
	r, ok := rowOf(t.Ins.Op)
	if !ok {
		return false
	}
	if r.has(signName) != (t.Name != "") || t.Name != "" && !nameMayBe(t.Name) {
		return false
	}
	if t.Ins.A != 0 && !r.has(signA) || t.Ins.B != 0 && !r.has(signB) || t.Ins.N != 0 && !r.has(signN) {
		return false
	}
	return isRegister(t.Ins.A) && isRegister(t.Ins.B) && numberMayBe(t.Ins.Op, t.Ins.N)
}

func isRegister(r int) bool {
	return r >= 0 && r < api.Regs
}

func numberMayBe(op int, n int64) bool {
	switch op {
	case api.MOVI:
		return true
	case api.TRAP:
		return n >= 0 && n <= mostTrap
	}
	return n >= math.MinInt32 && n <= math.MaxInt32
}

func nameMayBe(s string) bool {
	if len(s) < 1 || len(s) > maxName || !beginsName(s[0]) {
		return false
	}
	for i := 1; i < len(s); i++ {
		if !beginsName(s[i]) && !isDigit(s[i]) && s[i] != '.' {
			return false
		}
	}
	return true
}

func beginsName(b byte) bool {
	return b >= 'a' && b <= 'z' || b >= 'A' && b <= 'Z' || b == '_'
}

func isDigit(b byte) bool {
	return b >= '0' && b <= '9'
}
