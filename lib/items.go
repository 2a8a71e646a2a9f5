package lib

import (
	"strings"

	"cotter/api"
	"cotter/asmtext"
)

const (
	maxName = 16
	own     = "@" // stands in a text for the object's name
)

// letGo frees the word at r2; the store waits, like any other one.
const letGo = "movi r3 0\nst r2 0 r3"

// items are those of the object's parts, each the text of some lines.
func items(name string, parts ...string) ([]api.Item, api.Errno) {
	if !mayBe(name) {
		return nil, api.ErrArg
	}
	return asmtext.Parse(strings.ReplaceAll(lines(parts...), own, name))
}

// mayBe is asked ahead of laying the name into a text, where a line feed or a space of it would be one of the text's.
func mayBe(name string) bool {
	return len(name) <= maxName && asmtext.Check([]api.Item{{Kind: api.ItemLabel, Name: name}}) == api.OK
}

func lines(l ...string) string {
	return strings.Join(l, "\n")
}

// words are the object's data, so many noughts: free and empty.
func words(n int) string {
	return ".words @.data" + strings.Repeat(" 0", n)
}

// function is one that others see.
func function(name string, body ...string) string {
	return lines(".global @."+name, "@."+name+":", lines(body...))
}

// take swaps a 1 into the object's first word, until it was 0; then r2 is its address.
func take(function string) string {
	again := own + "." + function + ".again"
	return lines("adr r2 @.data 0", again+":", "movi r3 1", "xchg r2 0 r3", "jnz r3 "+again)
}
