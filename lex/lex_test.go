package lex_test

import (
	"math"
	"strings"
	"testing"

	"orrery/api"
	"orrery/lex"
	"orrery/rat"
)

func name(s string, at int) api.Token { return api.Token{Kind: api.KName, S: s, At: at} }
func word(s string, at int) api.Token { return api.Token{Kind: api.KWord, S: s, At: at} }
func sign(s string, at int) api.Token { return api.Token{Kind: api.KSign, S: s, At: at} }
func end(at int) api.Token            { return api.Token{Kind: api.KEnd, At: at} }
func whole(n int64, at int) api.Token { return quotient(n, 1, at) }
func quotient(n, d int64, at int) api.Token {
	return api.Token{Kind: api.KNumber, Num: api.Rat{N: n, D: d}, At: at}
}
func ok(tokens ...api.Token) answer { return answer{tokens, api.OK, 0} }

type row struct {
	s    string
	want answer
}

func checkRows(t *testing.T, rows []row) {
	t.Helper()
	for _, r := range rows {
		checkBoth(t, r.s, r.want)
	}
}

// TestExamples are all rows of the chapter's examples.
func TestExamples(t *testing.T) {
	checkRows(t, []row{
		{"var x1: m;", ok(word("var", 0), name("x1", 4), sign(":", 6), name("m", 8), sign(";", 9), end(10))},
		{"1..3 1.5e2 2e // c", ok(whole(1, 0), sign("..", 1), whole(3, 3), whole(150, 5), whole(2, 11), name("e", 12), end(18))},
		{"x_", ok(name("x_", 0), end(2))},
		{"_x", failed(api.ErrByte, 0)},
		{"1e99", failed(api.ErrOver, 0)},
		{"ß", failed(api.ErrByte, 0)},
	})
}

// TestWord is P12.1: the words themselves, and what is near to them.
func TestWord(t *testing.T) {
	if len(theWords) != 21 {
		t.Error(len(theWords))
	}
	isWord := map[string]bool{}
	for _, w := range theWords {
		isWord[w] = true
	}
	ask := func(s string) {
		t.Helper()
		if got := lex.Word(s); got != isWord[s] {
			t.Errorf("Word(%q) = %v", s, got)
		}
	}
	for _, s := range []string{"", " ", "x", "e", "var ", " var", "var\n", "var;", "varx", "va", "tan", "sinh", "cosh", "tanh", "abs", "pi", "model M", "sin(", "connect or", "\x00", "ß", "var\xff", "flow flow", "end end", strings.Repeat("var", 10000)} {
		ask(s)
	}
	for _, w := range theWords {
		ask(w)
		ask(strings.ToUpper(w))
		ask(strings.ToUpper(w[:1]) + w[1:])
		ask(w + "_")
		ask("_" + w)
		ask(w + "1")
		for _, v := range theWords {
			ask(w + v)
			ask(w + " " + v)
		}
		for i := range w {
			ask(w[:i])
			ask(w[i+1:])
			ask(w[:i] + w[i+1:])
			for c := range 256 {
				b := []byte(w)
				b[i] = byte(c)
				ask(string(b))
				ask(w[:i] + string([]byte{byte(c)}) + w[i:])
			}
		}
	}
}

// TestNothing has texts with no tokens, but the last one.
func TestNothing(t *testing.T) {
	for _, s := range []string{"", " ", "\t", "\n", "\r", " \t\r\n \n\n\r\r", "//", "// c", "// c\n", "//\n", "///", "////", "//\n//\n//", " // _!ß\x00\xff\n\t// 1e99 \r still the same", "// x\r//", strings.Repeat(" ", 20000), "//" + strings.Repeat("!", 19998), strings.Repeat("//\n", 6666)} {
		checkBoth(t, s, ok(end(len(s))))
	}
}

// TestComments has what begins none, and where one ends: at the byte 10 alone.
func TestComments(t *testing.T) {
	checkRows(t, []row{
		{"/", ok(sign("/", 0), end(1))},
		{"/ /", ok(sign("/", 0), sign("/", 2), end(3))},
		{"x/y", ok(name("x", 0), sign("/", 1), name("y", 2), end(3))},
		{"x//y", ok(name("x", 0), end(4))},
		{"x///y", ok(name("x", 0), end(5))},
		{"x/ //y", ok(name("x", 0), sign("/", 1), end(6))},
		{"x/\n/y", ok(name("x", 0), sign("/", 1), sign("/", 3), name("y", 4), end(5))},
		{"x//y\nz", ok(name("x", 0), name("z", 5), end(6))},
		{"x//y\rz", ok(name("x", 0), end(6))},
		{"x//y\r\nz", ok(name("x", 0), name("z", 6), end(7))},
		{"x//\nz", ok(name("x", 0), name("z", 4), end(5))},
		{"x//\n/z", ok(name("x", 0), sign("/", 4), name("z", 5), end(6))},
		{"x//\n//\n z", ok(name("x", 0), name("z", 8), end(9))},
		{"// a\nx", ok(name("x", 5), end(6))},
		{"x // a // b\n * y", ok(name("x", 0), sign("*", 13), name("y", 15), end(16))},
		{"x//\x0by", ok(name("x", 0), end(5))},
		{"/* x */", ok(sign("/", 0), sign("*", 1), name("x", 3), sign("*", 5), sign("/", 6), end(7))},
		{"1//2", ok(whole(1, 0), end(4))},
		{"1.//2", ok(whole(1, 0), sign(".", 1), end(5))},
		{"1e//2\n3", ok(whole(1, 0), name("e", 1), whole(3, 6), end(7))},
		{"1//\n.5", ok(whole(1, 0), sign(".", 4), whole(5, 5), end(6))},
		{"1.5//\ne2", ok(quotient(3, 2, 0), name("e2", 6), end(8))},
		{".//\n.", ok(sign(".", 0), sign(".", 4), end(5))},
		{"so//\nme", ok(name("so", 0), name("me", 5), end(7))},
		{"!//", failed(api.ErrByte, 0)},
		{"//\n!", failed(api.ErrByte, 3)},
	})
}

// TestNames has names of all lengths about the longest, with what may stand in them, and words.
func TestNames(t *testing.T) {
	checkRows(t, []row{
		{"x", ok(name("x", 0), end(1))},
		{"A", ok(name("A", 0), end(1))},
		{"Z_9", ok(name("Z_9", 0), end(3))},
		{"a__", ok(name("a__", 0), end(3))},
		{"z0123456789", ok(name("z0123456789", 0), end(11))},
		{"e5", ok(name("e5", 0), end(2))},
		{"E", ok(name("E", 0), end(1))},
		{"x.y", ok(name("x", 0), sign(".", 1), name("y", 2), end(3))},
		{"x..y", ok(name("x", 0), sign("..", 1), name("y", 3), end(4))},
		{"x1.5", ok(name("x1", 0), sign(".", 2), whole(5, 3), end(4))},
		{"x1e+5", ok(name("x1e", 0), sign("+", 3), whole(5, 4), end(5))},
		{"1x", ok(whole(1, 0), name("x", 1), end(2))},
		{"x-y", ok(name("x", 0), sign("-", 1), name("y", 2), end(3))},
		{"xß", failed(api.ErrByte, 1)},
		{"x\x00", failed(api.ErrByte, 1)},
		{"x _y", failed(api.ErrByte, 2)},
		{"1_", failed(api.ErrByte, 1)},
		{"_", failed(api.ErrByte, 0)},
		{"__x", failed(api.ErrByte, 0)},
		{"+_x", failed(api.ErrByte, 1)},
		{"varx", ok(name("varx", 0), end(4))},
		{"x var", ok(name("x", 0), word("var", 2), end(5))},
		{"connectors", ok(name("connectors", 0), end(10))},
		{"connector", ok(word("connector", 0), end(9))},
		{"connect or", ok(word("connect", 0), name("or", 8), end(10))},
		{"1var", ok(whole(1, 0), word("var", 1), end(4))},
		{"1exp", ok(whole(1, 0), word("exp", 1), end(4))},
		{"1.5end", ok(quotient(3, 2, 0), word("end", 3), end(6))},
	})
	for _, w := range theWords {
		checkBoth(t, w, ok(word(w, 0), end(len(w))))
		checkBoth(t, " "+w+"("+w+")", ok(word(w, 1), sign("(", 1+len(w)), word(w, 2+len(w)), sign(")", 2+2*len(w)), end(3+2*len(w))))
		for _, s := range []string{strings.ToUpper(w), strings.ToUpper(w[:1]) + w[1:], w + "_", w + "1", w + w, w + "x", "x" + w} {
			checkBoth(t, s, ok(name(s, 0), end(len(s))))
		}
	}
	for n := 1; n <= 60; n++ {
		for _, first := range []string{"x", "M", "var", "e1_"} {
			s := (first + strings.Repeat("_a0Z", 20))[:n]
			if !lex.Word(s) {
				checkName(t, s)
			}
		}
	}
	checkBoth(t, strings.Repeat("a", 20000), failed(api.ErrLong, 0))
}

// checkName asks of a name alone, and behind and ahead of others.
func checkName(t *testing.T, s string) {
	t.Helper()
	if len(s) > 24 {
		checkBoth(t, s, failed(api.ErrLong, 0))
		checkBoth(t, "  "+s+" !", failed(api.ErrLong, 2))
		checkBoth(t, "var "+s+" 1e99", failed(api.ErrLong, 4))
		checkBoth(t, "! "+s, failed(api.ErrByte, 0))
		return
	}
	checkBoth(t, s, ok(name(s, 0), end(len(s))))
	checkBoth(t, "x="+s+";", ok(name("x", 0), sign("=", 1), name(s, 2), sign(";", 2+len(s)), end(3+len(s))))
}

// TestNumbers has where numbers end, and what they are.
func TestNumbers(t *testing.T) {
	checkRows(t, []row{
		{"0", ok(whole(0, 0), end(1))},
		{"007", ok(whole(7, 0), end(3))},
		{"1.5", ok(quotient(3, 2, 0), end(3))},
		{"0.250", ok(quotient(1, 4, 0), end(5))},
		{"1.5e2", ok(whole(150, 0), end(5))},
		{"1.5E2", ok(whole(150, 0), end(5))},
		{"1.5e+2", ok(whole(150, 0), end(6))},
		{"1.5E-2", ok(quotient(3, 200, 0), end(6))},
		{"2e3", ok(whole(2000, 0), end(3))},
		{"2e03", ok(whole(2000, 0), end(4))},
		{"2E-1", ok(quotient(1, 5, 0), end(4))},
		{"9223372036854775807", ok(whole(math.MaxInt64, 0), end(19))},
		{"1.", ok(whole(1, 0), sign(".", 1), end(2))},
		{"1. 5", ok(whole(1, 0), sign(".", 1), whole(5, 3), end(4))},
		{"1 .5", ok(whole(1, 0), sign(".", 2), whole(5, 3), end(4))},
		{".5", ok(sign(".", 0), whole(5, 1), end(2))},
		{"..5", ok(sign("..", 0), whole(5, 2), end(3))},
		{"...5", ok(sign("..", 0), sign(".", 2), whole(5, 3), end(4))},
		{"1..", ok(whole(1, 0), sign("..", 1), end(3))},
		{"1..2", ok(whole(1, 0), sign("..", 1), whole(2, 3), end(4))},
		{"1...2", ok(whole(1, 0), sign("..", 1), sign(".", 3), whole(2, 4), end(5))},
		{"1.5..2.5", ok(quotient(3, 2, 0), sign("..", 3), quotient(5, 2, 5), end(8))},
		{"1.2.3", ok(quotient(6, 5, 0), sign(".", 3), whole(3, 4), end(5))},
		{"1.2.3.4", ok(quotient(6, 5, 0), sign(".", 3), quotient(17, 5, 4), end(7))},
		{"1.x", ok(whole(1, 0), sign(".", 1), name("x", 2), end(3))},
		{"1.e5", ok(whole(1, 0), sign(".", 1), name("e5", 2), end(4))},
		{"1e", ok(whole(1, 0), name("e", 1), end(2))},
		{"1E", ok(whole(1, 0), name("E", 1), end(2))},
		{"1.5e", ok(quotient(3, 2, 0), name("e", 3), end(4))},
		{"1.5E", ok(quotient(3, 2, 0), name("E", 3), end(4))},
		{"1e+", ok(whole(1, 0), name("e", 1), sign("+", 2), end(3))},
		{"1E-", ok(whole(1, 0), name("E", 1), sign("-", 2), end(3))},
		{"1e+x", ok(whole(1, 0), name("e", 1), sign("+", 2), name("x", 3), end(4))},
		{"1e-.5", ok(whole(1, 0), name("e", 1), sign("-", 2), sign(".", 3), whole(5, 4), end(5))},
		{"1e+-5", ok(whole(1, 0), name("e", 1), sign("+", 2), sign("-", 3), whole(5, 4), end(5))},
		{"1e++5", ok(whole(1, 0), name("e", 1), sign("+", 2), sign("+", 3), whole(5, 4), end(5))},
		{"1e + 5", ok(whole(1, 0), name("e", 1), sign("+", 3), whole(5, 5), end(6))},
		{"1e 5", ok(whole(1, 0), name("e", 1), whole(5, 3), end(4))},
		{"1 e5", ok(whole(1, 0), name("e5", 2), end(4))},
		{"1e+ 5", ok(whole(1, 0), name("e", 1), sign("+", 2), whole(5, 4), end(5))},
		{"1e*5", ok(whole(1, 0), name("e", 1), sign("*", 2), whole(5, 3), end(4))},
		{"1e_5", ok(whole(1, 0), name("e_5", 1), end(4))},
		{"1ee5", ok(whole(1, 0), name("ee5", 1), end(4))},
		{"1e5e5", ok(whole(100000, 0), name("e5", 3), end(5))},
		{"1e5x", ok(whole(100000, 0), name("x", 3), end(4))},
		{"1e5.5", ok(whole(100000, 0), sign(".", 3), whole(5, 4), end(5))},
		{"1e5..5", ok(whole(100000, 0), sign("..", 3), whole(5, 5), end(6))},
		{"1e1+1", ok(whole(10, 0), sign("+", 3), whole(1, 4), end(5))},
		{"1e1-1", ok(whole(10, 0), sign("-", 3), whole(1, 4), end(5))},
		{"-1", ok(sign("-", 0), whole(1, 1), end(2))},
		{"+1", ok(sign("+", 0), whole(1, 1), end(2))},
		{"1-2", ok(whole(1, 0), sign("-", 1), whole(2, 2), end(3))},
		{"1/2", ok(whole(1, 0), sign("/", 1), whole(2, 2), end(3))},
		{"0x1f", ok(whole(0, 0), name("x1f", 1), end(4))},
		{"1,5", ok(whole(1, 0), sign(",", 1), whole(5, 2), end(3))},
		{"1\xd9\xa3", failed(api.ErrByte, 1)}, // a digit, but none of 0 to 9
	})
}

func digits(n int) string { return strings.Repeat("7", n) }

// TestNumbersRefused has rat.Read's errors, at the number's place; what is left out of a number does not save it.
func TestNumbersRefused(t *testing.T) {
	noughts := func(n int) string { return strings.Repeat("0", n) }
	for s, want := range map[string]api.Errno{
		noughts(40): api.OK, noughts(41): api.ErrNumber, digits(40): api.ErrOver, digits(41): api.ErrNumber, digits(20000 - 8): api.ErrNumber,
		"0." + noughts(40): api.OK, "0." + noughts(41): api.ErrNumber, noughts(40) + "." + noughts(40) + "e-99": api.OK, noughts(41) + "." + noughts(40): api.ErrNumber,
		"1." + digits(41): api.ErrNumber, "1." + digits(40): api.ErrOver, digits(40) + "e-40": api.ErrOver,
		"0e99": api.OK, "0e100": api.ErrNumber, "0e000": api.ErrNumber, "0e+000": api.ErrNumber, "0E-000": api.ErrNumber, "1e002": api.ErrNumber, "1e" + digits(100): api.ErrNumber, "1.5e-123": api.ErrNumber,
		"1e18": api.OK, "1e19": api.ErrOver, "1e-18": api.OK, "1e-19": api.ErrOver, "1e99": api.ErrOver, "1E-99": api.ErrOver, "9223372036854775807": api.OK, "9223372036854775808": api.ErrOver,
	} {
		n, err := rat.Read(s)
		if err != want {
			t.Error(s, err, want)
		}
		if want != api.OK {
			checkBoth(t, s, failed(want, 0))
			checkBoth(t, "x + "+s+";", failed(want, 4))
			checkBoth(t, s+"\n!", failed(want, 0))
			checkBoth(t, "! "+s, failed(api.ErrByte, 0))
			continue
		}
		checkBoth(t, s, ok(api.Token{Kind: api.KNumber, Num: n}, end(len(s))))
		checkBoth(t, "-"+s+"..", ok(sign("-", 0), api.Token{Kind: api.KNumber, Num: n, At: 1}, sign("..", 1+len(s)), end(3+len(s))))
	}
	checkBoth(t, "1e999e", failed(api.ErrNumber, 0))
	checkBoth(t, "x"+digits(24), failed(api.ErrLong, 0))
}

// TestSigns has each of them, and each two of them: only two points are one sign, and two strokes none.
func TestSigns(t *testing.T) {
	if len(theSigns) != 15 {
		t.Error(len(theSigns))
	}
	for _, s := range theSigns {
		checkBoth(t, s, ok(sign(s, 0), end(len(s))))
		checkBoth(t, "x "+s+"y", ok(name("x", 0), sign(s, 2), name("y", 2+len(s)), end(3+len(s))))
		for _, next := range theSigns {
			apart := s + " " + next
			checkBoth(t, apart, ok(sign(s, 0), sign(next, 1+len(s)), end(len(apart))))
			joined := s + next
			switch {
			case joined == "//":
				checkBoth(t, joined, ok(end(2)))
			case joined == "..":
				checkBoth(t, joined, ok(sign("..", 0), end(2)))
			case joined == "...":
				checkBoth(t, joined, ok(sign("..", 0), sign(".", 2), end(3)))
			default:
				checkBoth(t, joined, ok(sign(s, 0), sign(next, len(s)), end(len(joined))))
			}
		}
	}
	checkRows(t, []row{
		{".....", ok(sign("..", 0), sign("..", 2), sign(".", 4), end(5))},
		{". .", ok(sign(".", 0), sign(".", 2), end(3))},
		{"<=", failed(api.ErrByte, 0)}, {"=>", failed(api.ErrByte, 1)}, {"x != y", failed(api.ErrByte, 2)}, {"==", ok(sign("=", 0), sign("=", 1), end(2))},
		{"^-1", ok(sign("^", 0), sign("-", 1), whole(1, 2), end(3))},
	})
}

// TestBytes has every byte: alone, behind each sort of token and ahead of each, and two of them.
func TestBytes(t *testing.T) {
	begins := " \t\n\r()[],;:.=+-*/^0123456789ABCDEFGHIJKLMNOPQRSTUVWXYZabcdefghijklmnopqrstuvwxyz"
	for c := range 256 {
		b := string([]byte{byte(c)})
		if !strings.Contains(begins, b) {
			checkBoth(t, b, failed(api.ErrByte, 0))
			checkBoth(t, " "+b, failed(api.ErrByte, 1))
			checkBoth(t, "+"+b+"var", failed(api.ErrByte, 1))
			checkBoth(t, "//"+b+"\n"+b, failed(api.ErrByte, 4))
		} else if got := lexed(b); got.err != api.OK {
			t.Error(c, got)
		}
		for _, s := range []string{"x", "1", "1.", "1.5", "1e", "1e+", "1e5", "/", "//", "var", " ", ".", "=", "_", "\xc3"} {
			checkByPatterns(t, s+b)
			checkByPatterns(t, b+s)
			checkByPatterns(t, s+b+"1")
		}
		for d := range 256 {
			checkByPatterns(t, b+string([]byte{byte(d)}))
		}
	}
}

// TestFirstError: the one that stands leftmost is told, and no token beside it.
func TestFirstError(t *testing.T) {
	long := "n23456789012345678901234_"
	checkRows(t, []row{
		{"! " + long + " 1e99 1e100", failed(api.ErrByte, 0)},
		{long + " ! 1e99 1e100", failed(api.ErrLong, 0)},
		{"1e99 1e100 ! " + long, failed(api.ErrOver, 0)},
		{"1e100 1e99 ! " + long, failed(api.ErrNumber, 0)},
		{"var x = 1;\n  y = 3 ? 4 : 1e99;", failed(api.ErrByte, 19)},
		{"var x: m; // !\nvar y: \xc2\xb5m;", failed(api.ErrByte, 22)},
		{"model M var x; x = 12345678901234567890; end;", failed(api.ErrOver, 19)},
		{"x \"y\"", failed(api.ErrByte, 2)},
	})
}
