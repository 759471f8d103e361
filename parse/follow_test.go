package parse_test

import (
	"math/rand"
	"strings"
	"testing"

	"orrery/api"
	"orrery/lex"
	"orrery/parse"
)

// What is written in one of its many ways is read as the tree that it is.
func TestTreesByChance(t *testing.T) {
	t.Parallel()
	read := 0
	for seed := range int64(6000) {
		d := draw(seed)
		file := d.file()
		l := loose{drawn: d}
		l.file(file)
		text := l.text()
		if len(text) > api.MaxText || len(l.tokens) > api.MaxTokens {
			continue
		}
		read++
		checkTree(t, text, file)
	}
	if read < 5500 {
		t.Error(read)
	}
}

// Blanks and comments between tokens change no tree.
func TestBlanks(t *testing.T) {
	for seed := range int64(300) {
		l := loose{drawn: draw(seed)}
		l.file(l.drawn.file())
		one, e, at := parse.Parse(strings.Join(l.tokens, " "))
		if e != api.OK || at != 0 {
			t.Fatal(seed, e, at)
		}
		for range 3 {
			checkTree(t, l.text(), one)
		}
		checkTree(t, "//\n"+strings.Join(l.tokens, "\n// end\n")+" // (", one)
	}
}

// P13.4: what is printed is parsed as the same tree, and printed as the same text.
func TestPrintedIsParsed(t *testing.T) {
	t.Parallel()
	for seed := range int64(4000) {
		file := draw(seed).file()
		text, e := parse.Print(file)
		if e != api.OK {
			t.Fatal(seed, e)
		}
		checkTree(t, text, file)
		checkParsed(t, text)
	}
}

// checkParsed asks of a text that is read: its tree is a file's, and, printed, read again as the same one.
func checkParsed(t *testing.T, text string) {
	t.Helper()
	tree, e, _ := parse.Parse(text)
	if e != api.OK {
		return
	}
	if e := parse.Right(tree); e != api.OK {
		t.Errorf("%q: %d", text, e)
	}
	printed, e := parse.Print(tree)
	if e == api.ErrLong {
		return
	}
	if again, e2, at := parse.Parse(printed); e != api.OK || e2 != api.OK || at != 0 || !equal(again, tree) {
		t.Errorf("%q, printed %q %d: %d %d", text, printed, e, e2, at)
	}
}

// derived is a text by chance of the grammar's rule; deep is how much more may be left to chance.
func (g grammar) derived(f *form, r *rand.Rand, deep int) string {
	switch f.sort {
	case 's':
		var all []string
		for _, part := range f.parts {
			all = append(all, g.derived(part, r, deep-1))
		}
		return strings.Join(all, " ")
	case '|':
		i := r.Intn(len(f.parts))
		if deep < 0 {
			i = 0
			if f.parts[0].parts[0].text == "minus" { // the one that goes on and on
				i = 1
			}
		}
		return g.derived(f.parts[i], r, deep-1)
	case '[', '{':
		text := ""
		for deep > 0 && r.Intn(2) == 0 {
			text += " " + g.derived(f.parts[0], r, deep-1)
			if f.sort == '[' {
				break
			}
		}
		return text
	}
	if rule, ok := g[f.text]; ok {
		return g.derived(rule, r, deep-1)
	}
	choices := map[string]string{"name": "x y z i k", "int": "0 1 3 1000000", "one": "1 1.0", "power": "0 2 64", "root": "1 2 64", "number": "0 1 0.25 1e3 7.5E-1", "minus": "-"}[f.text]
	if choices == "" {
		return strings.ToLower(strings.Trim(f.text, "'"))
	}
	words := strings.Fields(choices)
	return words[r.Intn(len(words))]
}

func TestTextsOfTheGrammar(t *testing.T) {
	t.Parallel()
	g := readGrammar()
	for seed := range int64(3000) {
		text := g.derived(&form{sort: '\'', text: "file"}, rand.New(rand.NewSource(seed)), 50)
		if len(text) < 4000 && !deep(g, text) {
			checkJudged(t, g, text)
			checkParsed(t, text)
		}
	}
}

// deep tells whether all tokens of a text can stand where they do, but more is within one another than may be.
func deep(g grammar, text string) bool {
	_, got, at := parse.Parse(text)
	e, _ := g.judged(text)
	return e == api.OK && got == api.ErrDeep && at == 0
}

// checkJudged asks for what the grammar tells of a text whose tree is not too large.
func checkJudged(t *testing.T, g grammar, text string) {
	t.Helper()
	e, at := g.judged(text)
	tree, gotE, gotAt := parse.Parse(text)
	if gotE != e || gotAt != at || e != api.OK && !equal(tree, api.Tree{}) {
		t.Errorf("%q: %d %d, not %d %d", text, gotE, gotAt, e, at)
	}
}

// vocabulary has each word and sign, names, and numbers of each sort.
func vocabulary() []string {
	all := append(strings.Fields(words), strings.Fields(". .. ( ) [ ] , ; : = + - * / ^ x 0 1 2 65 1000001 0.5 9e17 19073486328125e-19")...)
	return all
}

const eachRule = `unit m; unit v = m * 1 / ( m ^ 2 ) ^ ( - 1 / 2 ) ; unit w = s ^ - 3 ;
connector P var e ; flow f [ 3 ] : m ; end ;
model A param k = 1 ; param j : m = - k ; part p [ 2 ] : B ( k = 2 , j = 3 ) ; part q : B ;
start x = 1.5 ; start der ( x ) in [ 1 , - 2 ] ;
connect ( p [ 1 ] . n , q . n ) ;
for i in 1 .. 2 do connect ( p [ i ] . n , p [ i + 1 ] . n ) ; for j in 0 .. 0 do x [ j - 1 ] = time ; end ; end ;
der ( x ) = - x + 2 * ( x - 1 ) ^ 2 / y ^ - 1 - sin ( - - x ) ; end ;`

// Each token of a text with each of the grammar's rules is left out, put twice, changed for each other one, or has each other one ahead of it.
func TestEachTokenChanged(t *testing.T) {
	t.Parallel()
	g := readGrammar()
	tokens := strings.Fields(eachRule)
	if e, at := g.judged(eachRule); e != api.OK {
		t.Fatal(e, at)
	}
	checkParsed(t, eachRule)
	joined := func(ahead []string, middle string, behind []string) string {
		return strings.Join(ahead, " ") + " " + middle + " " + strings.Join(behind, " ")
	}
	for i, token := range tokens {
		checkJudged(t, g, joined(tokens[:i], "", tokens[i+1:]))
		checkJudged(t, g, joined(tokens[:i], token+" "+token, tokens[i+1:]))
		checkJudged(t, g, joined(tokens[:i], "", nil))
		near := tokens[i+1 : min(i+20, len(tokens))]
		for _, other := range vocabulary() {
			checkJudged(t, g, joined(tokens[:i], other, near))
			checkJudged(t, g, joined(tokens[:i], other+" "+token, near))
		}
	}
}

func TestTokensByChance(t *testing.T) {
	t.Parallel()
	g := readGrammar()
	others := vocabulary()
	told := map[api.Errno]int{}
	for seed := range int64(3000) {
		d := draw(seed)
		l := loose{drawn: d}
		l.file(d.file())
		tokens := l.tokens
		for range 1 + d.Intn(3) {
			if len(tokens) == 0 {
				break
			}
			i, j := d.Intn(len(tokens)), d.Intn(len(tokens))
			switch d.Intn(5) {
			case 0:
				tokens = append(tokens[:i:i], tokens[i+1:]...)
			case 4:
				tokens = tokens[:i]
			case 1:
				tokens[i], tokens[j] = tokens[j], tokens[i]
			case 2:
				tokens[i] = others[d.Intn(len(others))]
			case 3:
				tokens = append(tokens[:i:i], append([]string{others[d.Intn(len(others))]}, tokens[i:]...)...)
			}
		}
		text := strings.Join(tokens, " ")
		checkJudged(t, g, text)
		checkParsed(t, text)
		e, _ := g.judged(text)
		told[e]++
	}
	for _, e := range []api.Errno{api.OK, api.ErrToken, api.ErrEnd, api.ErrNumber} {
		if told[e] < 10 {
			t.Error(told)
		}
	}
}

// Where much is open at once: the text is judged, but for its tree's depth.
func TestOpenByChance(t *testing.T) {
	t.Parallel()
	g := readGrammar()
	told := map[api.Errno]int{}
	for seed := range int64(500) {
		d := draw(seed)
		text := "model A " + repeated("for i in 1 .. 2 do", d.Intn(62))
		if d.Intn(2) == 0 {
			text += "x = "
		}
		ends := ""
		for range d.Intn(80) {
			piece := []string{"-", "-", "(", "(", "sin (", "x * -", "( x ) * (", "-y [ i - 1 ] ^ -2 * -", "- ( 1 ) + - (", "x - - -"}[d.Intn(10)]
			text += " " + piece
			if strings.HasSuffix(piece, "(") {
				ends += " )"
			}
		}
		text += " x" + ends + " = 1 ; end ;"
		if !deep(g, text) {
			checkJudged(t, g, text)
		}
		e, _ := g.judged(text)
		told[e]++
	}
	if told[api.ErrDeep] < 100 || told[api.ErrEnd]+told[api.ErrToken] < 100 {
		t.Error(told)
	}
}

func TestBytesByChance(t *testing.T) {
	t.Parallel()
	g := readGrammar()
	for a := range 256 {
		checkJudged(t, g, string([]byte{byte(a)}))
		for b := range 256 {
			checkJudged(t, g, "unit "+string([]byte{byte(a), byte(b)}))
		}
	}
	pieces := append(vocabulary(), " ", "\n", "//", "e", "?", "ß", "\x00")
	for seed := range int64(5000) {
		d := draw(seed)
		text := []string{"", "unit u =", "model A ", "model A x =", "model A for i in 1..2 do ", "model A start x in ["}[d.Intn(6)]
		for range d.Intn(12) {
			text += pieces[d.Intn(len(pieces))] + []string{"", " "}[d.Intn(2)]
		}
		checkJudged(t, g, text)
		checkParsed(t, text)
	}
}

// kept are the places of all that a tree's lists have room for.
func kept(t *testing.T, tree api.Tree, seen map[*api.Tree]bool) {
	all := tree.Kids[:cap(tree.Kids)]
	for i := range all {
		if seen[&all[i]] {
			t.Fatal("two lists share memory")
		}
		seen[&all[i]] = true
	}
	for _, kid := range tree.Kids {
		kept(t, kid, seen)
	}
}

// R4 and R1: a tree is new memory, and what is done to it changes no other one.
func TestMemory(t *testing.T) {
	for seed := range int64(500) {
		text := written(draw(seed).file())
		seen := map[*api.Tree]bool{}
		one, _, _ := parse.Parse(text)
		two, _, _ := parse.Parse(text)
		kept(t, one, seen)
		kept(t, two, seen)
		spoil(one)
		checkTree(t, text, two)
		if again, e := parse.Print(two); again != text || e != api.OK {
			t.Errorf("%q: %q %d", text, again, e)
		}
	}
	start, _, _ := parse.Parse("model A start x = -(y + 1); end;")
	kids := start.Kids[0].Kids[0].Kids
	spoil(kids[1])
	if writtenExpr(kids[2]) != "-(y + 1)" {
		t.Error(kids[2])
	}
}

// spoil changes all that is within a tree.
func spoil(t api.Tree) {
	for i := range t.Kids {
		spoil(t.Kids[i])
		t.Kids[i] = api.Tree{Kind: 99, Name: "spoilt"}
	}
}

// R1: what is asked in between changes no answer.
func TestCallsKeepNothing(t *testing.T) {
	texts := []string{"", "unit m;", "model A x = ; end;", "model", "unit u = 2;", eachRule, "model A x = " + strings.Repeat("(", 61), "?", "model A x = 1" + strings.Repeat("+1", 30) + "; end;"}
	type told struct {
		tree api.Tree
		e    api.Errno
		at   int
	}
	first := map[string]told{}
	for range 3 {
		for _, text := range texts {
			tree, e, at := parse.Parse(text)
			was, ok := first[text]
			if ok && (was.e != e || was.at != at || !equal(was.tree, tree)) {
				t.Errorf("%q: %v %d %d, and then %v %d %d", text, was.tree, was.e, was.at, tree, e, at)
			}
			first[text] = told{tree, e, at}
			parse.Print(tree)
			parse.Right(t0(api.DFile, tree))
		}
	}
}

// The tables of the tests themselves: each word of the language is one of lex's.
func TestWordsOfTheTable(t *testing.T) {
	for _, word := range strings.Fields(words) {
		if !lex.Word(word) {
			t.Error(word)
		}
	}
}
