package lex_test

import (
	"strings"
	"testing"

	"orrery/api"
)

// TestLongText has texts of 20000 bytes, and of one more, whatever stands in them.
func TestLongText(t *testing.T) {
	for _, fill := range []string{" ", "\n", "x", "!", "1", "/", "(", "\xff", "x ", "1 +", "//\n"} {
		all := strings.Repeat(fill, 20001)
		if got := lexed(all[:20000]); got.err == api.ErrLong && got.at == 0 && fill != "x" {
			t.Errorf("%q: 20000 bytes are not too many", fill)
		}
		checkByPatterns(t, all[:19999])
		checkByPatterns(t, all[:20000])
		checkBoth(t, all[:20001], failed(api.ErrLong, 0))
		checkBoth(t, all[:20001]+"!", failed(api.ErrLong, 0))
	}
	blanks := strings.Repeat(" ", 19999)
	checkBoth(t, blanks+"x", ok(name("x", 19999), end(20000)))
	checkBoth(t, "x"+blanks, ok(name("x", 0), end(20000)))
	checkBoth(t, blanks+"!", failed(api.ErrByte, 19999))
	checkBoth(t, "!"+blanks, failed(api.ErrByte, 0))
	checkBoth(t, " "+blanks+"x", failed(api.ErrLong, 0))
	checkBoth(t, "! "+blanks, failed(api.ErrLong, 0))
	checkBoth(t, strings.Repeat("!", 100000), failed(api.ErrLong, 0))
}

// many are n tokens of all sorts, each with a blank behind it, and their text.
func many(n int) ([]api.Token, string) {
	var tokens []api.Token
	var text strings.Builder
	for i := range n {
		at := text.Len()
		switch i % 4 {
		case 0:
			tokens = append(tokens, sign("..", at))
			text.WriteString(".. ")
		case 1:
			tokens = append(tokens, name("x", at))
			text.WriteString("x ")
		case 2:
			tokens = append(tokens, whole(5, at))
			text.WriteString("5 ")
		case 3:
			tokens = append(tokens, word("in", at))
			text.WriteString("in ")
		}
	}
	return tokens, text.String()
}

// TestManyTokens has 4000 of them, and one more, which is too many ahead of being wrong otherwise.
func TestManyTokens(t *testing.T) {
	for _, n := range []int{1, 2, 3999, 4000} {
		tokens, text := many(n)
		for _, behind := range []string{"", " ", "\n\t\r ", "// c", "//", "// x y z\n", "// x\n // !\n\n"} {
			checkBoth(t, text+behind, ok(append(tokens[:n:n], end(len(text+behind)))...))
		}
	}
	_, text := many(4000)
	for _, next := range []string{"x", "in", "7", "+", "..", "/", "x y", "x !", "n23456789012345678901234_", "1e99", "1e100", digits(41), "!", "_", "ß", "\x00", "\xff"} {
		checkBoth(t, text+next, failed(api.ErrLong, len(text)))
		checkBoth(t, text+"// c\n\t"+next+" ", failed(api.ErrLong, len(text)+6))
	}
	tokens, text := many(3999)
	checkBoth(t, text+"x", ok(append(tokens, name("x", len(text)), end(len(text)+1))...))
	for next, err := range map[string]api.Errno{"n23456789012345678901234_": api.ErrLong, "1e99": api.ErrOver, "1e100": api.ErrNumber, "!": api.ErrByte, "_": api.ErrByte, "\xff": api.ErrByte} {
		checkBoth(t, text+next, failed(err, len(text)))
		checkBoth(t, text+next+" x", failed(err, len(text)))
	}
	checkBoth(t, strings.Repeat("(", 4000), wantedSigns("(", 4000))
	checkBoth(t, strings.Repeat("(", 4001), failed(api.ErrLong, 4000))
	checkBoth(t, strings.Repeat("(", 20000), failed(api.ErrLong, 4000))
	checkBoth(t, "!"+strings.Repeat("(", 4001), failed(api.ErrByte, 0))
	checkBoth(t, strings.Repeat("..", 4000)+"/", failed(api.ErrLong, 8000))
	checkBoth(t, strings.Repeat("..", 4000)+"//", wantedSigns("..", 4000).with(end(8002)))
}

// wantedSigns are n times a sign, one directly behind the other.
func wantedSigns(s string, n int) answer {
	var tokens []api.Token
	for i := range n {
		tokens = append(tokens, sign(s, i*len(s)))
	}
	return ok(append(tokens, end(n*len(s)))...)
}

// with puts another last token in place of the last one.
func (a answer) with(last api.Token) answer {
	a.tokens[len(a.tokens)-1] = last
	return a
}
