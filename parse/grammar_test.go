package parse_test

import (
	"strings"

	"quern/api"
	"quern/lex"
)

// grammarText are the rules of DOC.md, a line each.
const grammarText = `
program = { func }
block = "{" { stmt } "}"
func = "func" name "(" [ param { "," param } ] ")" [ type ] block
param = name type
type = "int" | "bool" | "[" "]" "int"
stmt = "var" name type [ "=" expr ] ";" | name "=" expr ";" | name "[" expr "]" "=" expr ";" | name "(" [ expr { "," expr } ] ")" ";" | "print" "(" expr ")" ";" | "panic" "(" expr ")" ";" | if | "for" [ expr ] block | "return" [ expr ] ";" | "break" ";" | "continue" ";" | block
if = "if" expr block [ "else" ( block | if ) ]
expr = and { "||" and }
and = cmp { "&&" cmp }
cmp = sum [ ( "==" | "!=" | "<" | "<=" | ">" | ">=" ) sum ]
sum = prod { ( "+" | "-" | "|" | "^" ) prod }
prod = unary { ( "*" | "/" | "%" | "<<" | ">>" | "&" | "&^" ) unary }
unary = ( "-" | "!" | "^" ) unary | post
post = prim { "[" expr "]" }
prim = number | "true" | "false" | "nil" | name | name "(" [ expr { "," expr } ] ")" | "input" "(" ")" | "len" "(" expr ")" | "make" "(" "[" "]" "int" "," expr ")" | "(" expr ")"
`

// symbol is a token's kind, or a rule.
type symbol struct {
	kind int
	rule string
}

// grammar has the ways of each rule, and which rules have an empty one.
type grammar struct {
	ways  map[string][][]symbol
	empty map[string]bool
}

func documentGrammar() *grammar {
	g := &grammar{map[string][][]symbol{}, map[string]bool{}}
	for _, line := range strings.Split(strings.TrimSpace(grammarText), "\n") {
		words := strings.Fields(line)
		rest := g.alternatives(words[0], words[2:])
		if len(rest) > 0 {
			panic("no rule: " + line)
		}
	}
	for again := true; again; {
		again = false
		for rule, ways := range g.ways {
			for _, way := range ways {
				if !g.empty[rule] && g.allEmpty(way) {
					g.empty[rule], again = true, true
				}
			}
		}
	}
	return g
}

func (g *grammar) allEmpty(way []symbol) bool {
	for _, s := range way {
		if s.kind != 0 || !g.empty[s.rule] {
			return false
		}
	}
	return true
}

// alternatives reads ways of a rule up to what closes them, and tells the rest of the words.
func (g *grammar) alternatives(rule string, words []string) []string {
	var way []symbol
	for len(words) > 0 && !strings.Contains("]})", words[0]) {
		var s symbol
		switch word := words[0]; word {
		case "|":
			g.ways[rule] = append(g.ways[rule], way)
			way, words = nil, words[1:]
			continue
		case "{", "[", "(":
			s, words = g.inner(rule, word, words[1:])
		default:
			s, words = symbolOf(word), words[1:]
		}
		way = append(way, s)
	}
	g.ways[rule] = append(g.ways[rule], way)
	return words
}

// inner makes a rule of its own of what stands in parentheses, in brackets (or nothing) or in braces (any number of times).
func (g *grammar) inner(rule, open string, words []string) (symbol, []string) {
	s := symbol{rule: rule + "'"}
	for g.ways[s.rule] != nil {
		s.rule += "'"
	}
	g.ways[s.rule] = [][]symbol{} // the name is taken
	one := s.rule + "!"
	rest := g.alternatives(one, words)
	switch open {
	case "(":
		g.ways[s.rule] = [][]symbol{{{rule: one}}}
	case "[":
		g.ways[s.rule] = [][]symbol{{}, {{rule: one}}}
	case "{":
		g.ways[s.rule] = [][]symbol{{}, {s, {rule: one}}}
	}
	return s, rest[1:]
}

func symbolOf(word string) symbol {
	switch {
	case word == "name":
		return symbol{kind: api.TokName}
	case word == "number":
		return symbol{kind: api.TokNumber}
	case word[0] == '"':
		tokens, _, _ := lex.Tokens([]byte(strings.Trim(word, `"`)))
		return symbol{kind: tokens[0].Kind}
	}
	return symbol{rule: word}
}

// item is a way of a rule that has been gone up to a dot, begun behind a number of tokens.
type item struct {
	rule             string
	way, dot, origin int
}

// chart has for each number of tokens the items that fit them: Earley's sets. There is none where the tokens begin nothing.
type chart struct {
	*grammar
	sets [][]item
}

func newChart(g *grammar) *chart {
	c := &chart{grammar: g}
	var first []item
	for i := range g.ways["program"] {
		first = append(first, item{rule: "program", way: i})
	}
	c.sets = append(c.sets, c.closed(first))
	return c
}

func (c *chart) after(i item) (symbol, bool) {
	way := c.ways[i.rule][i.way]
	if i.dot == len(way) {
		return symbol{}, false
	}
	return way[i.dot], true
}

// closed adds to the items of the set to come all that follows from them without a token.
func (c *chart) closed(set []item) []item {
	seen := map[item]bool{}
	place := len(c.sets)
	for _, i := range set {
		seen[i] = true
	}
	add := func(i item) {
		if !seen[i] {
			seen[i] = true
			set = append(set, i)
		}
	}
	for n := 0; n < len(set); n++ {
		i := set[n]
		s, more := c.after(i)
		switch {
		case !more && i.origin < place: // what began right here is known to be empty
			for _, j := range c.sets[i.origin] {
				if t, ok := c.after(j); ok && t.rule == i.rule {
					j.dot++
					add(j)
				}
			}
		case more && s.kind == 0:
			for way := range c.ways[s.rule] {
				add(item{s.rule, way, 0, place})
			}
			if c.empty[s.rule] {
				i.dot++
				add(i)
			}
		}
	}
	return set
}

// take goes on by a token's kind, and tells whether anything is left.
func (c *chart) take(kind int) bool {
	var next []item
	for _, i := range c.sets[len(c.sets)-1] {
		if s, more := c.after(i); more && s.kind == kind && kind != 0 {
			i.dot++
			next = append(next, i)
		}
	}
	if len(next) == 0 {
		return false
	}
	c.sets = append(c.sets, c.closed(next))
	return true
}

// following are the kinds of the tokens that can come next.
func (c *chart) following() map[int]bool {
	m := map[int]bool{}
	for _, i := range c.sets[len(c.sets)-1] {
		if s, more := c.after(i); more && s.kind != 0 {
			m[s.kind] = true
		}
	}
	return m
}

// whole tells whether the tokens so far are a program.
func (c *chart) whole() bool {
	for _, i := range c.sets[len(c.sets)-1] {
		if _, more := c.after(i); !more && i.rule == "program" && i.origin == 0 {
			return true
		}
	}
	return false
}

// verdict is what P402 asks for.
func verdict(g *grammar, tokens []api.Token, end int) (int, api.Errno) {
	c := newChart(g)
	for _, token := range tokens {
		kind := token.Kind
		if !right(token) {
			kind = 0
		}
		if !c.take(kind) {
			return token.At, api.ErrParseToken
		}
	}
	if c.whole() {
		return 0, api.OK
	}
	return end, api.ErrParseEnd
}
