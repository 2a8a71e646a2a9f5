package lex_test

import (
	"math/rand"
	"regexp"
	"slices"
	"strings"
	"testing"

	"cotter/api"
	"cotter/lex"
)

// The pieces of a source, each as an expression, in the order in which they are tried.
var (
	gaps    = regexp.MustCompile(`^(?:[ \t\n]|//[^\n]*)+`)
	spelt   = regexp.MustCompile(`^[A-Za-z_][A-Za-z_0-9]*`)
	counted = regexp.MustCompile(`^(?:0|[1-9][0-9]*)`)
	signed  = regexp.MustCompile(`^(?:&&|\|\||==|!=|<=|>=|<<|>>|[-+*/%&|^<>!=(){}\[\];,])`)
)

// modelLex cuts by the expressions; sources are short enough.
func modelLex(s string) ([]api.Token, bool) {
	var l []api.Token
	for at := 0; at < len(s); {
		rest := s[at:]
		if gap := gaps.FindString(rest); gap != "" {
			at += len(gap)
			continue
		}
		t := api.Token{At: at}
		if w := spelt.FindString(rest); w != "" {
			t.Kind, t.Text = api.TokName, w
			if slices.Contains(words, w) {
				t.Kind = api.TokWord
			} else if len(w) > 12 {
				return nil, false
			}
		} else if n := counted.FindString(rest); n != "" {
			t.Kind, t.Text = api.TokNum, n
			if len(n) > 19 || len(n) == 19 && n > "9223372036854775807" || counted.MatchString(rest[len(n):]) || spelt.MatchString(rest[len(n):]) {
				return nil, false
			}
			for _, d := range n {
				t.N = 10*t.N + int64(d-'0')
			}
		} else if t.Kind, t.Text = api.TokSign, signed.FindString(rest); t.Text == "" {
			return nil, false
		}
		l = append(l, t)
		at += len(t.Text)
	}
	return append(l, api.Token{Kind: api.TokEnd, At: len(s)}), true
}

// pieces are what sources are put together of.
func pieces() []string {
	l := []string{" ", "\n", "\t", "//", "//x", "//x\n", "/", "a", "x1", "_", "int_", "abcdefghijkl", "0", "1", "7", "00", "9223372036854775807", "9223372036854775808", "12", "$", "\r", "\x00", "é"}
	return slices.Concat(l, words, signs)
}

func randomSource(r *rand.Rand, pieces []string, n int) string {
	var b strings.Builder
	for range n {
		b.WriteString(pieces[r.Intn(len(pieces))])
	}
	return b.String()
}

func TestModel(t *testing.T) {
	r := rand.New(rand.NewSource(14))
	good := 0
	all := pieces()
	for range 60000 {
		s := randomSource(r, all, r.Intn(9))
		want, ok := modelLex(s)
		l, e := lex.Lex(s)
		if ok != (e == api.OK) || !ok && e != api.ErrSyntax || !slices.Equal(l, want) {
			t.Fatalf("P14.1: %q: %+v, error %d; want %+v", s, l, e, want)
		}
		if ok {
			good++
		}
	}
	if good < 10000 || good > 50000 {
		t.Errorf("%d sources hold: too many, or too few, to tell", good)
	}
}

// All texts of a few bytes over those that matter.
func TestShortSources(t *testing.T) {
	const bytes = "a_09 \n/=<&!$"
	for _, a := range bytes {
		for _, b := range bytes {
			for _, c := range bytes {
				for _, d := range bytes {
					s := string([]rune{a, b, c, d})
					want, ok := modelLex(s)
					l, e := lex.Lex(s)
					if ok != (e == api.OK) || !slices.Equal(l, want) {
						t.Fatalf("P14.1: %q: %+v, error %d; want %+v", s, l, e, want)
					}
				}
			}
		}
	}
}

// Each token stands where it says, they rise, and between them stand blanks and notes alone.
func wantPlaces(t *testing.T, s string, l []api.Token) {
	t.Helper()
	at := 0
	for i, x := range l {
		if x.At < at || x.At+len(x.Text) > len(s) || s[x.At:x.At+len(x.Text)] != x.Text {
			t.Fatalf("P14.3: %q: token %d: %+v", s, i, x)
		}
		if gap := s[at:x.At]; gaps.FindString(gap) != gap {
			t.Fatalf("P14.3: %q: %q stands ahead of token %d", s, gap, i)
		}
		if (x.Text == "") != (i == len(l)-1) || (x.Kind == api.TokEnd) != (i == len(l)-1) {
			t.Fatalf("P14.3: %q: token %d: %+v", s, i, x)
		}
		at = x.At + len(x.Text)
	}
	if at != len(s) || len(l) == 0 {
		t.Fatalf("P14.3: %q: they end at %d", s, at)
	}
}

// spread lays blanks and notes more ahead of each token: the first of them may have to end a note.
func spread(r *rand.Rand, s string, l []api.Token) string {
	var b strings.Builder
	at := 0
	for _, x := range l {
		b.WriteString(s[at:x.At])
		if strings.Contains(s[at:x.At], "//") {
			b.WriteString("\n")
		}
		for range r.Intn(3) {
			b.WriteString([]string{" ", "\t", "\n", " // x\n", " //\n"}[r.Intn(5)])
		}
		b.WriteString(x.Text)
		at = x.At + len(x.Text)
	}
	return b.String()
}

func TestPlaces(t *testing.T) {
	r := rand.New(rand.NewSource(3))
	all := pieces()
	for range 30000 {
		s := randomSource(r, all, r.Intn(7))
		l, e := lex.Lex(s)
		if e != api.OK {
			continue
		}
		wantPlaces(t, s, l)
		wide := spread(r, s, l)
		more, e := lex.Lex(wide)
		if e != api.OK || len(more) != len(l) {
			t.Fatalf("P14.3: %q: %+v; %q: %+v, error %d", s, l, wide, more, e)
		}
		wantPlaces(t, wide, more)
		for i := range l {
			a, b := l[i], more[i]
			a.At, b.At = 0, 0
			if a != b {
				t.Fatalf("P14.3: %q: %+v; %q: %+v", s, l[i], wide, more[i])
			}
		}
	}
}
