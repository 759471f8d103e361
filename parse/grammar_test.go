package parse_test

import (
	"regexp"
	"strings"

	"orrery/api"
	"orrery/lex"
)

// The chapter's grammar, word by word; but ints that are held to other limits have names of their own (one, power, root), and the sign of neg is minus.
const grammarText = `
file     = { unit | class }
unit     = UNIT name [ '=' dim ] ';'
class    = ( MODEL | CONNECTOR ) name { item } END ';'
item     = PARAM name [ ':' dim ] '=' expr ';' | ( VAR | FLOW ) name [ '[' int ']' ] [ ':' dim ] ';' | PART name [ '[' int ']' ] ':' name [ '(' mod { ',' mod } ')' ] ';' | START ( ref | der ) ( '=' expr | IN '[' expr ',' expr ']' ) ';' | rule
mod      = name '=' expr
rule     = CONNECT '(' ref ',' ref ')' ';' | FOR name IN int '..' int DO { rule } END ';' | expr '=' expr ';'
dim      = up { ( '*' | '/' ) up }
up       = ( name | one | '(' dim ')' ) [ '^' ( [ '-' ] power | '(' [ '-' ] power '/' root ')' ) ]
expr     = mul { ( '+' | '-' ) mul }
mul      = neg { ( '*' | '/' ) neg }
neg      = minus neg | prime [ '^' [ '-' ] power ]
prime    = number | TIME | der | ( SQRT | EXP | LOG | SIN | COS | ATAN ) '(' expr ')' | '(' expr ')' | ref
der      = DER '(' ref ')'
ref      = el { '.' el }
el       = name [ '[' ( int | name [ ( '+' | '-' ) int ] ) ']' ]
`

// form is a part of the grammar: sort is ' of a terminal or a rule (text), s of a row, | of alternatives, [ and { of what may be left out, or be repeated.
type form struct {
	sort  byte
	text  string
	parts []*form
}

type grammar map[string]*form

func readGrammar() grammar {
	g := grammar{}
	for _, line := range strings.Split(strings.TrimSpace(grammarText), "\n") {
		name, body, _ := strings.Cut(line, "=")
		words := regexp.MustCompile(`'[^']+'|[A-Za-z]+|[][(){}|]`).FindAllString(body, -1)
		f, rest := readForm(words)
		if len(rest) != 0 {
			panic("grammar: " + line)
		}
		g[strings.TrimSpace(name)] = f
	}
	return g
}

func readForm(words []string) (*form, []string) {
	all := &form{sort: '|'}
	row := &form{sort: 's'}
	for len(words) > 0 && !strings.Contains("])}", words[0]) {
		word := words[0]
		words = words[1:]
		switch word {
		case "|":
			all.parts = append(all.parts, row)
			row = &form{sort: 's'}
		case "(", "[", "{":
			var inner *form
			inner, words = readForm(words)
			words = words[1:]
			if word != "(" {
				inner = &form{sort: word[0], parts: []*form{inner}}
			}
			row.parts = append(row.parts, inner)
		default:
			row.parts = append(row.parts, &form{sort: '\'', text: word})
		}
	}
	all.parts = append(all.parts, row)
	return all, words
}

// state is what must still be read, from the top on; nil: nothing more.
type state struct {
	top  *form
	rest *state
}

// ready are the states that a state is, each with a terminal at its top (or nil: the end).
func (g grammar) ready(s *state) []*state {
	if s == nil {
		return []*state{nil}
	}
	var all []*state
	switch f := s.top; f.sort {
	case 's':
		rest := s.rest
		for i := len(f.parts) - 1; i >= 0; i-- {
			rest = &state{f.parts[i], rest}
		}
		return g.ready(rest)
	case '|':
		for _, part := range f.parts {
			all = append(all, g.ready(&state{part, s.rest})...)
		}
		return all
	case '[':
		return append(g.ready(s.rest), g.ready(&state{f.parts[0], s.rest})...)
	case '{':
		return append(g.ready(s.rest), g.ready(&state{f.parts[0], s})...)
	default:
		if rule, ok := g[f.text]; ok {
			return g.ready(&state{rule, s.rest})
		}
		return []*state{s}
	}
}

// lets tells whether a token is what a terminal asks for, but for a number's amount.
func lets(terminal string, t api.Token) bool {
	switch {
	case terminal == "name":
		return t.Kind == api.KName
	case terminal == "minus":
		return t.Kind == api.KSign && t.S == "-"
	case terminal[0] == '\'':
		return t.Kind == api.KSign && "'"+t.S+"'" == terminal
	case terminal == strings.ToUpper(terminal):
		return t.Kind == api.KWord && t.S == strings.ToLower(terminal)
	}
	return t.Kind == api.KNumber
}

// amountRight tells whether a number's amount is what a terminal asks for.
func amountRight(terminal string, n api.Rat) bool {
	whole := n.D == 1
	switch terminal {
	case "int":
		return whole && n.N <= 1000000
	case "one":
		return n == api.Rat{N: 1, D: 1}
	case "power":
		return whole && n.N <= 64
	case "root":
		return whole && n.N <= 64 && n.N != 0
	}
	for _, p := range []int64{2, 5} {
		for i := 0; i < 18 && n.D%p == 0; i++ {
			n.D /= p
		}
	}
	return n.D == 1
}

// opened follows what is open: `(`, FOR (f) and the sign of neg (-); brackets are kept besides, and not counted.
type opened []byte

func (o *opened) count() int {
	return len(*o) - strings.Count(string(*o), "[")
}

func (o *opened) drop(what byte) {
	for n := len(*o); n > 0 && (*o)[n-1] == what; n = len(*o) {
		*o = (*o)[:n-1]
		if what != '-' {
			return
		}
	}
}

// follow takes a token; it tells whether it would be one too many.
func (o *opened) follow(terminal string, t api.Token) bool {
	open := byte(0)
	switch {
	case terminal == "minus":
		open = '-'
	case t.S == "(", t.S == "[":
		open = t.S[0]
	case t.S == "for":
		open = 'f'
	case t.S != "" && strings.Contains("+-*/),;=]", t.S):
		o.drop('-') // what a sign stands ahead of has ended
	}
	switch t.S {
	case ")":
		o.drop('(')
	case "]":
		o.drop('[')
	case "end":
		o.drop('f')
	}
	if open == 0 {
		return false
	}
	many := open != '[' && o.count() == 60
	*o = append(*o, open)
	return many
}

// judged is what Parse must tell of a text, but for the size of its tree.
func (g grammar) judged(s string) (api.Errno, int) {
	tokens, e, at := lex.Lex(s)
	if e != api.OK {
		return e, at
	}
	states := g.ready(&state{top: &form{sort: '\'', text: "file"}})
	var open opened
	for _, t := range tokens[:len(tokens)-1] {
		var terminal string
		var next []*state
		for _, s := range states {
			if s != nil && lets(s.top.text, t) {
				if terminal != "" && terminal != s.top.text {
					panic("two ways: " + terminal + " " + s.top.text)
				}
				terminal = s.top.text
				next = append(next, g.ready(s.rest)...)
			}
		}
		switch {
		case terminal == "":
			return api.ErrToken, t.At
		case t.Kind == api.KNumber && !amountRight(terminal, t.Num):
			return api.ErrNumber, t.At
		case open.follow(terminal, t):
			return api.ErrDeep, t.At
		}
		states = next
	}
	for _, s := range states {
		if s == nil {
			return api.OK, 0
		}
	}
	return api.ErrEnd, len(s)
}
