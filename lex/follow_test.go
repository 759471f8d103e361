package lex_test

import (
	"math/rand"
	"slices"
	"strings"
	"testing"

	"orrery/api"
	"orrery/lex"
	"orrery/rat"
)

// drawText puts pieces together by chance; some of them are wrong, if wrong is above 0: about one in so many.
func drawText(r *rand.Rand, wrong int) string {
	pieces := slices.Concat(theWords, theSigns, theBlanks, theBlanks, theBlanks, []string{
		"x", "y1", "a_b", "E", "e", "e5", "E9", "Model", "varx", "in_", "n2345678901234567890123_",
		"0", "1", "27", "1.5", "0.25", "1e3", "1.5e-2", "2E+1", "00", "5.", "7e", "7e+", "3e-", "1..2", "...", "x.y", "p[i+1].n",
		"// c\n", "//\n", "// var x; \r 1e99 !\n", "/ ", " / ", "-x", "1-1",
	})
	faults := []string{"!", "_", "_x", "ß", "\x00", "\xff", "\x7f", "1e99", "1e100", "1e-40", digits(41), "n23456789012345678901234_", "#", "\"", "{", "// no end"}
	var text strings.Builder
	for range r.Intn(40) {
		if wrong > 0 && r.Intn(wrong) == 0 {
			text.WriteString(faults[r.Intn(len(faults))])
		} else {
			text.WriteString(pieces[r.Intn(len(pieces))])
		}
	}
	return text.String()
}

// drawTokens draws until a text has tokens: pieces may join to what is wrong.
func drawTokens(t *testing.T, r *rand.Rand) (string, []api.Token) {
	t.Helper()
	for range 100 {
		s := drawText(r, 0)
		if tokens, err, _ := lex.Lex(s); err == api.OK && len(tokens) > 1 {
			return s, tokens
		}
	}
	t.Fatal("none of 100 texts has tokens")
	return "", nil
}

// TestChance holds answers against the patterns.
func TestChance(t *testing.T) {
	r := rand.New(rand.NewSource(12))
	for range 20000 {
		checkByPatterns(t, drawText(r, 0))
		checkByPatterns(t, drawText(r, 60))
	}
	few := "x1.e+-/_ E\n!"
	for range 40000 {
		b := make([]byte, r.Intn(12))
		for i := range b {
			b[i] = few[r.Intn(len(few))]
		}
		checkByPatterns(t, string(b))
	}
}

// written is a token's text, as it stands at its place.
func written(t *testing.T, s string, token api.Token) string {
	t.Helper()
	if token.Kind != api.KNumber {
		return token.S
	}
	text := aNumber.FindString(s[token.At:])
	if n, err := rat.Read(text); err != api.OK || n != token.Num {
		t.Errorf("%q at %d: %v is not %q", short(s), token.At, token.Num, text)
	}
	return text
}

// TestPlaces is P12.3: a token stands at its place, and nothing but blanks and comments between it and the next.
func TestPlaces(t *testing.T) {
	r := rand.New(rand.NewSource(123))
	for range 5000 {
		s, tokens := drawTokens(t, r)
		ended := 0
		for i, token := range tokens {
			if (token.Kind == api.KEnd) != (i == len(tokens)-1) || token.At < ended || token.At > len(s) {
				t.Fatalf("%q: %v", s, tokens)
			}
			if gap := s[ended:token.At]; between.FindString(gap) != gap {
				t.Errorf("%q: %q is left out ahead of %v", s, gap, token)
			}
			text := written(t, s, token)
			if !strings.HasPrefix(s[token.At:], text) || (text == "") != (token.Kind == api.KEnd) {
				t.Errorf("%q: %v does not stand there", s, token)
			}
			ended = token.At + len(text)
		}
		if ended != len(s) {
			t.Errorf("%q: ends at %d", s, ended)
		}
	}
}

// drawGap is of blanks and comments; behind a stroke a comment needs a blank ahead of it.
func drawGap(r *rand.Rand) string {
	gap := theBlanks[r.Intn(len(theBlanks))]
	for range r.Intn(3) {
		gap += []string{" ", "\t", "\n", "\r", "//\n", "// x + 1e99\n", "//!_\r\n"}[r.Intn(7)]
	}
	return gap
}

// TestGaps is P12.3: what stands between tokens changes none of them but their places.
func TestGaps(t *testing.T) {
	r := rand.New(rand.NewSource(1234))
	for range 5000 {
		s, tokens := drawTokens(t, r)
		var text strings.Builder
		want := slices.Clone(tokens)
		for i, token := range tokens {
			if i > 0 || r.Intn(2) == 0 {
				text.WriteString(drawGap(r))
			}
			want[i].At = text.Len()
			text.WriteString(written(t, s, token))
		}
		check(t, text.String(), ok(want...))
	}
}

// TestAgain is R1: a call is not changed by those ahead of it, nor is what was answered by those behind it.
func TestAgain(t *testing.T) {
	text := "model M var x; der(x) = -1.5e1 * x; start x in [0, 1]; end; // M"
	first := lexed(text)
	kept := answer{slices.Clone(first.tokens), first.err, first.at}
	for _, s := range []string{"", "!", "var", "1e99", strings.Repeat("x ", 4001), text} {
		lex.Lex(s)
		lex.Word(s)
	}
	first2 := lexed(text)
	if !same(first, kept) || !same(first2, kept) {
		t.Error(first, first2, kept)
	}
	for i := range first2.tokens {
		first2.tokens[i] = api.Token{}
	}
	check(t, text, kept)
	if !same(first, kept) {
		t.Error("two answers share memory")
	}
}
