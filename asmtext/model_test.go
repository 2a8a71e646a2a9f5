package asmtext_test

import (
	"math"
	"math/big"
	"math/rand"
	"regexp"
	"strings"
	"testing"

	"cotter/api"
	"cotter/asmtext"
)

// The model says by patterns which lines are an item's: name, number and register stand in them for the chapter's words.
var patterns = func() []*regexp.Regexp {
	words := strings.NewReplacer("NAME", `[a-zA-Z_][a-zA-Z0-9_.]{0,27}`, "NUM", `(?:0|-?[1-9][0-9]*)`, "REG", `r[0-7]`)
	var l []*regexp.Regexp
	for _, s := range []string{`(NAME):`, `\.(?:global|thread) (NAME)`, `\.words NAME( NUM)+`, `movi REG (NUM)`,
		`(?:mov|add|sub|mul|div|rem|and|or|xor|shl|sar|eq|ne|lt|le) REG REG`, `ld REG REG (NUM)`, `(?:st|xchg|xadd) REG (NUM) REG`,
		`adr REG NAME (NUM)`, `(?:jmp|call) NAME`, `(?:jz|jnz) REG NAME`, `ret|fence|halt`, `out REG`, `trap (NUM)`} {
		l = append(l, regexp.MustCompile(`\A(?:`+words.Replace(s)+`)\z`))
	}
	return l
}()

var notes = regexp.MustCompile(`(?s)#.*\z`)

// clean is a line as it would be printed, if it is an item's.
func clean(line string) string {
	return strings.Trim(regexp.MustCompile(` +`).ReplaceAllString(notes.ReplaceAllString(line, ""), " "), " ")
}

func within(w string, least int64, most int64) bool {
	n, ok := new(big.Int).SetString(w, 10)
	return ok && n.Cmp(big.NewInt(least)) >= 0 && n.Cmp(big.NewInt(most)) <= 0
}

func lineMayBe(line string) bool {
	for _, p := range patterns {
		if p.MatchString(line) {
			return numbersMayBe(strings.Split(line, " "))
		}
	}
	return false
}

// numbersMayBe is asked of lines that a pattern fits.
func numbersMayBe(l []string) bool {
	switch l[0] {
	case ".words":
		for _, w := range l[2:] {
			if !within(w, math.MinInt64, math.MaxInt64) {
				return false
			}
		}
		return len(l)-2 <= 4096
	case "movi":
		return within(l[2], math.MinInt64, math.MaxInt64)
	case "trap":
		return within(l[1], 0, 127)
	case "ld", "adr":
		return within(l[3], math.MinInt32, math.MaxInt32)
	case "st", "xchg", "xadd":
		return within(l[2], math.MinInt32, math.MaxInt32)
	}
	return true
}

// model is what Print of Parse answers.
func model(s string) (string, bool) {
	var b strings.Builder
	for _, line := range strings.Split(s, "\n") {
		if line = clean(line); line == "" {
			continue
		}
		if !lineMayBe(line) {
			return "", false
		}
		b.WriteString(line + "\n")
	}
	return b.String(), true
}

func wantModel(t *testing.T, s string) bool {
	t.Helper()
	text, ok := model(s)
	l, e := asmtext.Parse(s)
	if !ok {
		if len(l) != 0 || e != api.ErrSyntax {
			t.Fatalf("P9.2: %q: %v, error %d; want none", s, l, e)
		}
		return false
	}
	if e != api.OK || asmtext.Check(l) != api.OK {
		t.Fatalf("P9.1, P9.2: %q: error %d", s, e)
	}
	printed, e := asmtext.Print(l)
	if printed != text || e != api.OK {
		t.Fatalf("P9.3: %q: %q, error %d; want %q", s, printed, e, text)
	}
	if back, e := asmtext.Parse(printed); !same(back, l) || e != api.OK {
		t.Fatalf("P9.4: %q: %v, error %d; want %v", printed, back, e, l)
	}
	if again, e := asmtext.Parse(s); !same(again, l) || e != api.OK {
		t.Fatalf("R6: %q: %v, then %v, error %d", s, l, again, e)
	}
	return true
}

func pick(r *rand.Rand, l ...string) string {
	return l[r.Intn(len(l))]
}

func randomWord(r *rand.Rand) string {
	return pick(r, "r0", "r1", "r7", "r8", "x", "y.z", "_", "x:", "0", "-1", "7", "127", "128", "2147483647", "2147483648", "-2147483648", "-2147483649", "9223372036854775807", "9223372036854775808", "-9223372036854775808", "007", "#", "\n", "ret", "movi", "mov", "le", "ld", "st", "xchg", "xadd", "adr", "jmp", "jz", "jnz", "call", "fence", "out", "halt", "trap", ".global", ".thread", ".words")
}

// Lines of words at random are rarely an item's; lines of items with one word turned are so now and then.
func TestAgainstAModel(t *testing.T) {
	r := rand.New(rand.NewSource(9))
	lines := kinds()
	good := 0
	for range 60000 {
		var b strings.Builder
		for range r.Intn(3) {
			l := strings.Split(lines[r.Intn(len(lines))].line, " ")
			if r.Intn(2) == 0 {
				l[r.Intn(len(l))] = randomWord(r)
			}
			if r.Intn(8) == 0 {
				l = append(l, randomWord(r))
			}
			b.WriteString(pick(r, "", "", " ", "   "))
			b.WriteString(strings.Join(l, pick(r, " ", "  ", "     ")))
			b.WriteString(pick(r, "", " ", "#", " # so", "#ret") + pick(r, "\n", "\n\n", " \n"))
		}
		if wantModel(t, b.String()) {
			good++
		}
	}
	if good < 10000 || good > 50000 {
		t.Errorf("only %d texts of 60000 are of use", good)
	}
}

func TestBytesAtRandomAgainstAModel(t *testing.T) {
	r := rand.New(rand.NewSource(10))
	for range 60000 {
		s := []byte(lineAtRandom(r) + "\n" + lineAtRandom(r))
		for range r.Intn(3) {
			s[r.Intn(len(s))] = byte(r.Intn(256))
		}
		wantModel(t, string(s))
	}
}

func lineAtRandom(r *rand.Rand) string {
	l := kinds()
	return l[r.Intn(len(l))].line
}

func randomNumber(r *rand.Rand, bits int) int64 {
	return int64(r.Uint64()) >> (64 - 1 - r.Intn(bits))
}

func randomName(r *rand.Rand) string {
	b := []byte{letters[r.Intn(len(letters))]}
	for range r.Intn(28) {
		b = append(b, signs[r.Intn(len(signs))])
	}
	return string(b)
}

// randomItem turns all that the line of one says.
func randomItem(r *rand.Rand) api.Item {
	l := kinds()
	t := l[r.Intn(len(l))].item
	if t.Name != "" {
		t.Name = randomName(r)
	}
	if t.Ins.A != 0 {
		t.Ins.A = r.Intn(8)
	}
	if t.Ins.B != 0 {
		t.Ins.B = r.Intn(8)
	}
	switch {
	case t.Ins.Op == api.TRAP:
		t.Ins.N = int64(r.Intn(128))
	case t.Ins.Op == api.MOVI:
		t.Ins.N = randomNumber(r, 64)
	case t.Ins.N != 0:
		t.Ins.N = randomNumber(r, 32)
	}
	if t.Kind == api.ItemWords {
		t.Words = nil
		for range 1 + r.Intn(20) {
			t.Words = append(t.Words, randomNumber(r, 64))
		}
	}
	return t
}

func randomItems(r *rand.Rand) []api.Item {
	var l []api.Item
	for range r.Intn(30) {
		l = append(l, randomItem(r))
	}
	return l
}

func TestParseTurnsPrintBack(t *testing.T) {
	r := rand.New(rand.NewSource(11))
	for range 3000 {
		a, b := randomItems(r), randomItems(r)
		s, e := asmtext.Print(a)
		if e != api.OK {
			t.Fatalf("P9.1, P9.3: %v: error %d", a, e)
		}
		if back, e := asmtext.Parse(s); !same(back, a) || e != api.OK {
			t.Fatalf("P9.4: %q: %v, error %d; want %v", s, back, e, a)
		}
		u, _ := asmtext.Print(b)
		both := append(append([]api.Item(nil), a...), b...)
		if l, e := asmtext.Parse(s + u); !same(l, both) || e != api.OK {
			t.Fatalf("P9.4: %q behind %q: %v, error %d", u, s, l, e)
		}
		if l, e := asmtext.Print(both); l != s+u || e != api.OK {
			t.Fatalf("P9.3: %v: %q, error %d", both, l, e)
		}
		wantModel(t, s+u)
	}
}
