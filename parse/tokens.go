package parse

import "cotter/api"

// mostSize is the greatest number that may stand outside an expression.
const mostSize = 1000000

// tokens are gone along from the left; the last one is the end. Where another one stands than is wanted, they panic: read recovers that.
type tokens struct {
	list []api.Token
	at   int
}

func (t *tokens) now() api.Token {
	return t.list[t.at]
}

// is compares texts alone: no name and no number has that of a word or a sign, nor has the end.
func (t *tokens) is(text string) bool {
	return t.now().Text == text
}

// isAhead asks for the token behind the one that is next, which must not be the end.
func (t *tokens) isAhead(text string) bool {
	return t.list[t.at+1].Text == text
}

func (t *tokens) skip(text string) bool {
	if !t.is(text) {
		return false
	}
	t.at++
	return true
}

func (t *tokens) want(text string) {
	if !t.skip(text) {
		panic(api.ErrSyntax)
	}
}

func (t *tokens) take(kind int) api.Token {
	got := t.now()
	if got.Kind != kind {
		panic(api.ErrSyntax)
	}
	t.at++
	return got
}

func (t *tokens) name() string {
	return t.take(api.TokName).Text
}

// size is a number outside an expression.
func (t *tokens) size() int {
	n := t.take(api.TokNum).N
	if n > mostSize {
		panic(api.ErrSyntax)
	}
	return int(n)
}
