package lex_test

import (
	"math"
	"slices"
	"strconv"
	"strings"
	"testing"

	"cotter/api"
	"cotter/lex"
)

// The calls have the types that the chapter lists.
var (
	_ func(string) ([]api.Token, api.Errno) = lex.Lex
	_ func(string) bool                     = lex.Name
)

// The chapter's words and signs.
var (
	words = strings.Fields("lock ticket queue extern int by rank thread var if else while with print return get put")
	signs = strings.Fields("&& || == != <= >= << >> + - * / % & | ^ < > ! = ( ) { } [ ] ; ,")
)

func name(s string, at int) api.Token { return api.Token{Kind: api.TokName, Text: s, At: at} }
func word(s string, at int) api.Token { return api.Token{Kind: api.TokWord, Text: s, At: at} }
func sign(s string, at int) api.Token { return api.Token{Kind: api.TokSign, Text: s, At: at} }
func end(at int) api.Token            { return api.Token{Kind: api.TokEnd, At: at} }

func number(s string, at int) api.Token {
	n, err := strconv.ParseInt(s, 10, 64)
	if err != nil {
		panic(s)
	}
	return api.Token{Kind: api.TokNum, Text: s, N: n, At: at}
}

// wantTokens wants Lex to answer those, twice.
func wantTokens(t *testing.T, s string, want ...api.Token) {
	t.Helper()
	for range 2 {
		l, e := lex.Lex(s)
		if e != api.OK || !slices.Equal(l, want) {
			t.Fatalf("P14.1: %.200q: %+v, error %d; want %+v", s, l, e, want)
		}
		clear(l[:cap(l)]) // R5: the next answer is not this memory
	}
}

func wantError(t *testing.T, s string, want api.Errno) {
	t.Helper()
	l, e := lex.Lex(s)
	if e != want {
		t.Errorf("P14.1: %.200q: error %d; want %d", s, e, want)
	}
	if e != api.OK && len(l) > 0 {
		t.Errorf("R3: %.200q: %d tokens beside an error", s, len(l))
	}
}

func wantCount(t *testing.T, s string, want int) {
	t.Helper()
	l, e := lex.Lex(s)
	if e != api.OK || len(l) != want {
		t.Errorf("P14.1: %.200q: %d tokens, error %d; want %d", s, len(l), e, want)
	}
}

func TestExamples(t *testing.T) {
	wantTokens(t, "a<=1//x", name("a", 0), sign("<=", 1), number("1", 3), end(7))
	for _, s := range []string{"1x", "01", "$", strings.Repeat("a", 13)} {
		wantError(t, s, api.ErrSyntax)
	}
}

func TestBlanks(t *testing.T) {
	for _, s := range []string{"", " ", "\t", "\n", " \t\n", "\n\n\n", "//", "//\n", "// x", "//x\n", "////", "// a // b\n//c", "//\x00\xff\r\v$\n", "//\n//\n", " //\t\n\t// \n ", "// \"é\""} {
		wantTokens(t, s, end(len(s)))
		wantTokens(t, s+"\na", name("a", len(s)+1), end(len(s)+2))
		wantTokens(t, "a "+s, name("a", 0), end(len(s)+2))
	}
	wantTokens(t, "a//b\nc", name("a", 0), name("c", 5), end(6))
	wantTokens(t, "a//b\n//c\nd", name("a", 0), name("d", 9), end(10))
	wantTokens(t, "a/\n/b", name("a", 0), sign("/", 1), sign("/", 3), name("b", 4), end(5))
	wantTokens(t, "a / / b", name("a", 0), sign("/", 2), sign("/", 4), name("b", 6), end(7))
	wantTokens(t, "a*//*b\nc", name("a", 0), sign("*", 1), name("c", 7), end(8))
	wantTokens(t, "/", sign("/", 0), end(1))
	wantTokens(t, "///", end(3))
}

func TestWords(t *testing.T) {
	if len(words) != 17 {
		t.Fatalf("%d words", len(words))
	}
	for _, w := range words {
		wantTokens(t, w, word(w, 0), end(len(w)))
		wantTokens(t, " "+w+";", word(w, 1), sign(";", len(w)+1), end(len(w)+2))
		wantTokens(t, w+"\n"+w, word(w, 0), word(w, len(w)+1), end(2*len(w)+1))
		for _, other := range []string{w + "_", "_" + w, w + "0", w + "x", strings.ToUpper(w), strings.ToUpper(w[:1]) + w[1:], w[:len(w)-1], w[1:]} {
			if !slices.Contains(words, other) {
				wantTokens(t, other, name(other, 0), end(len(other)))
			}
		}
	}
}

func TestSigns(t *testing.T) {
	if len(signs) != 28 {
		t.Fatalf("%d signs", len(signs))
	}
	for _, s := range signs {
		wantTokens(t, s, sign(s, 0), end(len(s)))
		wantTokens(t, s+" ", sign(s, 0), end(len(s)+1))
		wantTokens(t, "a"+s+"1", name("a", 0), sign(s, 1), number("1", 1+len(s)), end(2+len(s)))
		wantTokens(t, "if"+s+"if", word("if", 0), sign(s, 2), word("if", 2+len(s)), end(4+len(s)))
		wantTokens(t, "7"+s+"_", number("7", 0), sign(s, 1), name("_", 1+len(s)), end(2+len(s)))
	}
	for _, c := range []struct {
		s    string
		want string
	}{
		{"===", "== ="}, {"====", "== =="}, {"=!=", "= !="}, {"!==", "!= ="}, {"!!=", "! !="}, {"=<", "= <"}, {"<==", "<= ="},
		{"<<=", "<< ="}, {"<<<", "<< <"}, {"<<<<", "<< <<"}, {"<>", "< >"}, {"><", "> <"}, {">>=", ">> ="}, {">=>", ">= >"}, {">>>=", ">> >="}, {"<<<=", "<< <="},
		{"&&&", "&& &"}, {"&=", "& ="}, {"|=", "| ="}, {"&|", "& |"}, {"|&|", "| & |"}, {"|||", "|| |"}, {"||||", "|| ||"}, {"^=", "^ ="},
		{"+=", "+ ="}, {"++", "+ +"}, {"--", "- -"}, {"->", "- >"}, {"**", "* *"}, {"%%", "% %"}, {"*/", "* /"}, {"/*", "/ *"}, {"/=", "/ ="},
		{"()[]{}", "( ) [ ] { }"}, {";;,,", "; ; , ,"}, {"!-!", "! - !"}, {"=-1", "= - 1"}, {"!<", "! <"}, {"<!", "< !"}, {"<!=", "< !="},
	} {
		var got []string
		l, e := lex.Lex(c.s)
		for _, x := range l {
			got = append(got, x.Text)
		}
		if e != api.OK || strings.Join(got, " ") != c.want+" " {
			t.Errorf("P14.1: %q: %q, error %d; want %q", c.s, got, e, c.want)
		}
	}
}

// Any two signs, one behind the other: the first one is the longest that begins there.
func TestTwoSigns(t *testing.T) {
	for _, a := range signs {
		for _, b := range signs {
			s := a + b
			if strings.HasPrefix(s, "//") {
				continue
			}
			want := longest(s)
			l, e := lex.Lex(s + " ")
			if e != api.OK || len(l) < 2 || l[0] != sign(want, 0) {
				t.Errorf("P14.1: %q: %+v, error %d; want %q first", s, l, e, want)
			}
			rest := 0
			for _, x := range l {
				if x.At != rest && x.Kind != api.TokEnd {
					t.Errorf("P14.3: %q: %+v", s, l)
				}
				rest += len(x.Text)
			}
			if rest != len(s) {
				t.Errorf("P14.3: %q: %+v", s, l)
			}
		}
	}
}

func longest(s string) string {
	for size := 2; size > 0; size-- {
		if len(s) >= size && slices.Contains(signs, s[:size]) {
			return s[:size]
		}
	}
	return ""
}

func TestNumbers(t *testing.T) {
	for _, s := range []string{"0", "1", "9", "10", "42", "100", "1000000", "1234567890", "4294967296", "999999999999999999", "1000000000000000000", "9223372036854775806", "9223372036854775807"} {
		wantTokens(t, s, number(s, 0), end(len(s)))
		wantTokens(t, "-"+s+"+", sign("-", 0), number(s, 1), sign("+", 1+len(s)), end(2+len(s)))
		wantTokens(t, s+" x", number(s, 0), name("x", len(s)+1), end(len(s)+2))
		wantTokens(t, s+" 0", number(s, 0), number("0", len(s)+1), end(len(s)+2))
		wantTokens(t, s+"//_", number(s, 0), end(len(s)+3))
		for _, bad := range []string{"0" + s, "00" + s, s + "_", s + "a", s + "z", s + "A", s + "Z", s + "e5", s + "x0", s + ".5", s + "$", s + "\x80", s + "_1"} {
			wantError(t, bad, api.ErrSyntax)
			wantError(t, "x = "+bad+";", api.ErrSyntax)
		}
	}
	for _, s := range []string{"9223372036854775808", "9223372036854775809", "9999999999999999999", "10000000000000000000", "18446744073709551615", "18446744073709551616", "18446744073709551617", strings.Repeat("9", 100), strings.Repeat("1", 19990), "1" + strings.Repeat("0", 64)} {
		wantError(t, s, api.ErrSyntax)
		wantError(t, "-"+s[:len(s)-1]+"9", api.ErrSyntax)
	}
	l, e := lex.Lex("9223372036854775807")
	if e != api.OK || l[0].N != math.MaxInt64 {
		t.Errorf("P14.1: %+v, error %d", l, e)
	}
}

func TestNames(t *testing.T) {
	for _, s := range []string{"a", "z", "A", "Z", "_", "__", "a0", "_9", "aZ_09", "abcdefghijkl", "____________", "A23456789012", "Lock", "LOCK", "ints", "in", "int_", "putt", "acquire", "release", "for", "elseif"} {
		wantTokens(t, s, name(s, 0), end(len(s)))
		wantTokens(t, "("+s+")", sign("(", 0), name(s, 1), sign(")", 1+len(s)), end(2+len(s)))
		if !lex.Name(s) || !lex.Name(s) {
			t.Errorf("P14.2: %q", s)
		}
	}
	for _, s := range []string{"abcdefghijklm", "_____________", "a123456789012", "threadthreadt", strings.Repeat("x", 14), strings.Repeat("x", 19990), "lock_thread_q"} {
		wantError(t, s, api.ErrSyntax)
		wantError(t, "int "+s, api.ErrSyntax)
		if lex.Name(s) {
			t.Errorf("P14.2: %q", s)
		}
	}
	for _, s := range append([]string{"", " ", "a ", " a", "a b", "0", "1", "0a", "9_", "a.b", "a-", "-a", "a\n", "a$", "é", "a\x00", "\x00", "a\x80", "(", "//", "a//"}, words...) {
		if lex.Name(s) {
			t.Errorf("P14.2: %q", s)
		}
	}
	if lex.Name(strings.Repeat("a", 1<<22)) {
		t.Error("P14.2: a long text")
	}
}

// Each byte: alone, ahead of, and behind others.
func TestBytes(t *testing.T) {
	for c := range 256 {
		s := string([]byte{byte(c)})
		letter := c >= 'a' && c <= 'z' || c >= 'A' && c <= 'Z' || c == '_'
		digit := c >= '0' && c <= '9'
		switch {
		case letter:
			wantTokens(t, s, name(s, 0), end(1))
			wantTokens(t, "a"+s, name("a"+s, 0), end(2))
			wantError(t, "1"+s, api.ErrSyntax)
		case digit:
			wantTokens(t, s, number(s, 0), end(1))
			wantTokens(t, "a"+s, name("a"+s, 0), end(2))
			wantTokens(t, "1"+s, number("1"+s, 0), end(2))
		case c == ' ' || c == '\t' || c == '\n':
			wantTokens(t, s, end(1))
			wantTokens(t, "a"+s+"b", name("a", 0), name("b", 2), end(3))
			wantTokens(t, "1"+s+"2", number("1", 0), number("2", 2), end(3))
			wantTokens(t, "<"+s+"<", sign("<", 0), sign("<", 2), end(3))
		case slices.Contains(signs, s):
			wantTokens(t, s, sign(s, 0), end(1))
			wantTokens(t, "a"+s+"b", name("a", 0), sign(s, 1), name("b", 2), end(3))
		default:
			for _, bad := range []string{s, s + "a", "a" + s, "1" + s, "<" + s, "a " + s + " b", "//\n" + s, s + "//", s + s} {
				wantError(t, bad, api.ErrSyntax)
			}
			wantTokens(t, "//"+s, end(3))
		}
		if lex.Name(s) != letter || lex.Name("a"+s) != (letter || digit) || lex.Name(s+"a") != letter || lex.Name("a"+s+"a") != (letter || digit) {
			t.Errorf("P14.2: %q", s)
		}
	}
}

func TestLarge(t *testing.T) {
	full := strings.Repeat(" ", api.MaxSource)
	wantTokens(t, full, end(20000))
	wantTokens(t, full[:19998]+"a;", name("a", 19998), sign(";", 19999), end(20000))
	wantTokens(t, "//"+full[:19998], end(20000))
	for _, s := range []string{full + " ", full + "a", "a" + full, "$" + full, full + "$", strings.Repeat("$", 20001), strings.Repeat("1", 20001), strings.Repeat(" ", 1<<22)} {
		wantError(t, s, api.ErrLarge)
	}
	wantError(t, full[:19999]+"$", api.ErrSyntax)
	wantError(t, "$"+full[:19999], api.ErrSyntax)
}

// The end is a token, too. What is no token tells ahead of how many there are.
func TestManyTokens(t *testing.T) {
	for _, one := range []string{";", "a ", "1 ", "<<<\n", "if\t", "x//\n"} {
		each := 1
		if one[0] == '<' {
			each = 2
		}
		for n := 3990 / each; n <= 4010/each && n*len(one) <= api.MaxSource; n++ {
			s := strings.Repeat(one, n)
			if n*each+1 <= 4000 {
				wantCount(t, s, n*each+1)
				wantCount(t, s+"//a b c d e f\n  ", n*each+1)
			} else {
				wantError(t, s, api.ErrLarge)
			}
			wantError(t, s+"$", api.ErrSyntax)
			wantError(t, s+"01", api.ErrSyntax)
			wantError(t, s+" abcdefghijklm", api.ErrSyntax)
		}
	}
	wantError(t, strings.Repeat(";", 20000), api.ErrLarge)
	wantError(t, strings.Repeat(";", 19999)+"$", api.ErrSyntax)
}
