package asmtext

import (
	"strconv"
	"strings"

	"cotter/api"
)

// The first words of lines that are no instruction's, and what stands behind a label's name.
const (
	wordGlobal = ".global"
	wordThread = ".thread"
	wordWords  = ".words"
	labelEnd   = ":"
)

// read tells whether words, of which there is at least one, are an item's line.
func read(words []string) (api.Item, bool) {
	t, ok := take(words[0], words[1:])
	return t, ok && mayBe(t)
}

// take leaves it open whether names and numbers may be where they stand.
func take(first string, rest []string) (api.Item, bool) {
	if name, ok := strings.CutSuffix(first, labelEnd); ok {
		return api.Item{Kind: api.ItemLabel, Name: name}, len(rest) == 0
	}
	switch first {
	case wordGlobal:
		return takeNamed(api.ItemGlobal, rest)
	case wordThread:
		return takeNamed(api.ItemThread, rest)
	case wordWords:
		return takeWords(rest)
	}
	return takeIns(first, rest)
}

func takeNamed(kind int, rest []string) (api.Item, bool) {
	if len(rest) != 1 {
		return api.Item{}, false
	}
	return api.Item{Kind: kind, Name: rest[0]}, true
}

func takeWords(rest []string) (api.Item, bool) {
	if len(rest) == 0 {
		return api.Item{}, false
	}
	t := api.Item{Kind: api.ItemWords, Name: rest[0]}
	for _, w := range rest[1:] {
		n, ok := number(w)
		if !ok {
			return api.Item{}, false
		}
		t.Words = append(t.Words, n)
	}
	return t, true
}

func takeIns(mnemonic string, rest []string) (api.Item, bool) {
	op, ok := opOf(mnemonic)
	if !ok || len(rest) != len(rows[op].behind) {
		return api.Item{}, false
	}
	t := api.Item{Kind: api.ItemIns, Ins: api.Ins{Op: op}}
	for i, w := range rest {
		if !set(&t, rows[op].behind[i], w) {
			return api.Item{}, false
		}
	}
	return t, true
}

// set lays what a word says where its sign belongs.
func set(t *api.Item, sign byte, w string) (ok bool) {
	switch sign {
	case signA:
		t.Ins.A, ok = register(w)
	case signB:
		t.Ins.B, ok = register(w)
	case signN:
		t.Ins.N, ok = number(w)
	case signName:
		t.Name, ok = w, true
	}
	return ok
}

func register(w string) (int, bool) {
	if len(w) != 2 || w[0] != 'r' || !isDigit(w[1]) {
		return 0, false
	}
	return int(w[1] - '0'), true
}

// number takes a word that is just as the number is written: no other sign, no nought ahead.
func number(w string) (int64, bool) {
	n, err := strconv.ParseInt(w, 10, 64)
	return n, err == nil && digits(n) == w
}

func digits(n int64) string {
	return strconv.FormatInt(n, 10)
}

// lineOf is that of an item that may be.
func lineOf(t api.Item) string {
	return strings.Join(said(t), " ") + "\n"
}

func said(t api.Item) []string {
	switch t.Kind {
	case api.ItemLabel:
		return []string{t.Name + labelEnd}
	case api.ItemGlobal:
		return []string{wordGlobal, t.Name}
	case api.ItemThread:
		return []string{wordThread, t.Name}
	case api.ItemWords:
		words := []string{wordWords, t.Name}
		for _, n := range t.Words {
			words = append(words, digits(n))
		}
		return words
	}
	return saidIns(t)
}

func saidIns(t api.Item) []string {
	r := rows[t.Ins.Op]
	words := []string{r.mnemonic}
	for i := range len(r.behind) {
		words = append(words, operand(t, r.behind[i]))
	}
	return words
}

func operand(t api.Item, sign byte) string {
	switch sign {
	case signA:
		return registerName(t.Ins.A)
	case signB:
		return registerName(t.Ins.B)
	case signN:
		return digits(t.Ins.N)
	}
	return t.Name
}

func registerName(r int) string {
	return "r" + strconv.Itoa(r)
}
