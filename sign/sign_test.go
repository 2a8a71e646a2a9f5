package sign_test

import (
	"testing"

	"cotter/api"
	"cotter/sign"
)

func TestOf(t *testing.T) {
	straight := map[string]int{"+": api.ADD, "-": api.SUB, "*": api.MUL, "/": api.DIV, "%": api.REM, "&": api.AND, "|": api.OR, "^": api.XOR, "<<": api.SHL, ">>": api.SAR, "==": api.EQ, "!=": api.NE, "<": api.LT, "<=": api.LE}
	for s, want := range straight {
		if what, a, b := sign.Of(s, "l", "r"); what != want || a != "l" || b != "r" {
			t.Errorf("%s: %d %s %s", s, what, a, b)
		}
	}
	for s, want := range map[string]int{">": api.LT, ">=": api.LE} {
		if what, a, b := sign.Of(s, 1, 2); what != want || a != 2 || b != 1 {
			t.Errorf("%s: %d %d %d", s, what, a, b)
		}
	}
	for _, s := range []string{"", "&&", "||", "!", "=", "+ ", "<<<", "x"} {
		if what, a, b := sign.Of(s, 1, 2); what != 0 || a != 1 || b != 2 {
			t.Errorf("%q: %d %d %d", s, what, a, b)
		}
	}
}
