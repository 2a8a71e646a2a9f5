package parse_test

import (
	"slices"
	"strings"

	"cotter/api"
	"cotter/lex"
)

// grammar is the chapter's. Of the numbers, a size is one outside an exp, a room one in the brackets of a global.
const grammar = `
module = { decl }
decl = [ "extern" ] ( "lock" name | "ticket" name | "queue" name size ) ";" | [ "extern" ] "int" name [ "[" room "]" ] "by" name ";" | "int" name "(" [ name { "," name } ] ")" [ "with" name ] "rank" size block | "extern" "int" name "(" size ")" [ "with" name ] "rank" size ";" | "thread" name block
block = "{" { stmt } "}"
stmt = "var" name "=" exp ";" | name "=" exp ";" | name "[" exp "]" "=" exp ";" | [ name "=" ] name "(" [ exp { "," exp } ] ")" ";" | [ name "=" ] "get" "(" name ")" ";" | [ name "=" ] "put" "(" name "," exp ")" ";" | "if" "(" exp ")" block [ "else" block ] | "while" "(" exp ")" block | "with" name block | "print" exp ";" | "return" exp ";"
exp = and { "||" and }
and = or1 { "&&" or1 }
or1 = xor { "|" xor }
xor = and1 { "^" and1 }
and1 = eq { "&" eq }
eq = less { ( "==" | "!=" ) less }
less = shift { ( "<" | "<=" | ">" | ">=" ) shift }
shift = sum { ( "<<" | ">>" ) sum }
sum = times { ( "+" | "-" ) times }
times = unary { ( "*" | "/" | "%" ) unary }
unary = ( "-" | "!" ) unary | "(" exp ")" | num | name | name "[" exp "]"
`

// piece is a part of a rule: one of these.
type piece struct {
	text   string    // a token's, or a rule's name
	quoted bool      // which of the two
	ways   [][]piece // choices, each of them a row
	kind   byte      // '(' once, '[' once or not at all, '{' any number of times
}

var rules = readRules(grammar)

func readRules(text string) map[string]piece {
	l := map[string]piece{}
	for _, line := range strings.Split(strings.TrimSpace(text), "\n") {
		words := strings.Fields(line)
		ways, rest := readWays(words[2:])
		if words[1] != "=" || len(rest) > 0 {
			panic(line)
		}
		l[words[0]] = piece{kind: '(', ways: ways}
	}
	return l
}

func readWays(words []string) ([][]piece, []string) {
	ways := [][]piece{nil}
	for len(words) > 0 {
		word := words[0]
		words = words[1:]
		last := len(ways) - 1
		switch word {
		case ")", "]", "}":
			return ways, words
		case "|":
			ways = append(ways, nil)
		case "(", "[", "{":
			var inner [][]piece
			inner, words = readWays(words)
			ways[last] = append(ways[last], piece{kind: word[0], ways: inner})
		default:
			bare := strings.Trim(word, `"`)
			ways[last] = append(ways[last], piece{text: bare, quoted: bare != word})
		}
	}
	return ways, nil
}

// matcher finds all ends of what may begin at a token.
type matcher struct {
	tokens []api.Token
	known  map[string]map[int][]int
}

// isModule tells whether a source's tokens are one, apart from how deep they nest.
func isModule(s string) bool {
	l, e := lex.Lex(s)
	if e != api.OK {
		return false
	}
	m := &matcher{tokens: l[:len(l)-1], known: map[string]map[int][]int{}}
	return slices.Contains(m.rule("module", 0), len(l)-1)
}

func (m *matcher) rule(name string, at int) []int {
	if m.known[name] == nil {
		m.known[name] = map[int][]int{}
	}
	if _, ok := m.known[name][at]; !ok {
		m.known[name][at] = m.piece(rules[name], at)
	}
	return m.known[name][at]
}

func (m *matcher) piece(p piece, at int) []int {
	if p.ways == nil {
		return m.token(p, at)
	}
	var ends []int
	if p.kind != '(' {
		ends = []int{at}
	}
	for from := []int{at}; len(from) > 0; {
		var found []int
		for _, begin := range from {
			for _, way := range p.ways {
				found = append(found, m.row(way, begin)...)
			}
		}
		from = nil
		for _, end := range found {
			if !slices.Contains(ends, end) {
				ends = append(ends, end)
				from = append(from, end)
			}
		}
		if p.kind != '{' {
			break
		}
	}
	return ends
}

func (m *matcher) row(way []piece, at int) []int {
	ends := []int{at}
	for _, p := range way {
		var next []int
		for _, end := range ends {
			for _, n := range m.piece(p, end) {
				if !slices.Contains(next, n) {
					next = append(next, n)
				}
			}
		}
		ends = next
	}
	return ends
}

func (m *matcher) token(p piece, at int) []int {
	if _, ok := rules[p.text]; ok && !p.quoted {
		return m.rule(p.text, at)
	}
	if at == len(m.tokens) {
		return nil
	}
	t := m.tokens[at]
	fits := false
	switch {
	case p.quoted:
		fits = t.Text == p.text
	case p.text == "name":
		fits = t.Kind == api.TokName
	case p.text == "num":
		fits = t.Kind == api.TokNum
	case p.text == "size":
		fits = t.Kind == api.TokNum && t.N <= 1000000
	case p.text == "room":
		fits = t.Kind == api.TokNum && t.N <= 1000000 && t.N > 0
	default:
		panic(p.text)
	}
	if fits {
		return []int{at + 1}
	}
	return nil
}
