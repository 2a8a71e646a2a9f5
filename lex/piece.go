package lex

import (
	"strconv"
	"strings"

	"cotter/api"
)

// blank is the kind of blanks and notes: the end's, of which no piece is.
const blank = api.TokEnd

// piece is what s, which is not empty, begins with; its Text is empty, if that may not be.
func piece(s string) api.Token {
	switch c, next := s[0], second(s); c {
	case ' ', '\t', '\n':
		return cut(blank, s, 1)
	case '&', '|':
		if next == c {
			return cut(api.TokSign, s, 2)
		}
		return cut(api.TokSign, s, 1)
	case '<', '>':
		if next == c {
			return cut(api.TokSign, s, 2)
		}
		fallthrough
	case '=', '!':
		if next == '=' {
			return cut(api.TokSign, s, 2)
		}
		return cut(api.TokSign, s, 1)
	case '/':
		if next == '/' {
			return cut(blank, s, noteSize(s))
		}
		fallthrough
	case '+', '-', '*', '%', '^', '(', ')', '{', '}', '[', ']', ';', ',':
		return cut(api.TokSign, s, 1)
	}
	if isDigit(s[0]) {
		return number(s)
	}
	return wordOrName(s)
}

// second is 0, which is in no sign, where there is none.
func second(s string) byte {
	if len(s) < 2 {
		return 0
	}
	return s[1]
}

func cut(kind int, s string, size int) api.Token {
	return api.Token{Kind: kind, Text: s[:size]}
}

// noteSize leaves the line feed alone: a note may end without one.
func noteSize(s string) int {
	note, _, _ := strings.Cut(s, "\n")
	return len(note)
}

// number is of an s that begins with a digit.
func number(s string) api.Token {
	t := cut(api.TokNum, s, span(s, isDigit))
	n, err := strconv.ParseInt(t.Text, 10, 64)
	if err != nil || t.Text != "0" && t.Text[0] == '0' || span(s, isInName) > len(t.Text) {
		return api.Token{}
	}
	t.N = n
	return t
}

// wordOrName is of an s that begins with no digit.
func wordOrName(s string) api.Token {
	t := cut(api.TokName, s, span(s, isInName))
	if isWord(t.Text) {
		t.Kind = api.TokWord
	} else if !Name(t.Text) {
		return api.Token{}
	}
	return t
}

// span is how many bytes of its kind s begins with.
func span(s string, is func(byte) bool) int {
	for i := range len(s) {
		if !is(s[i]) {
			return i
		}
	}
	return len(s)
}

func isInName(c byte) bool {
	return isLetter(c) || isDigit(c)
}

// isLetter counts the underscore as one: it may stand wherever a letter may.
func isLetter(c byte) bool {
	return c >= 'a' && c <= 'z' || c >= 'A' && c <= 'Z' || c == '_'
}

func isDigit(c byte) bool {
	return c >= '0' && c <= '9'
}
