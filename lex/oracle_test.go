package lex_test

import (
	"regexp"
	"slices"
	"testing"

	"orrery/api"
	"orrery/lex"
	"orrery/rat"
)

// The chapter's words as patterns. Those of tokens are looked for from where a text begins, the longest one each.
var (
	between   = regexp.MustCompile(`\A(?:[\x20\x09\x0A\x0D]|//[^\x0A]*)*`)
	aName     = regexp.MustCompile(`\A[A-Za-z][A-Za-z0-9_]*`)
	aNumber   = regexp.MustCompile(`\A[0-9]+(?:\.[0-9]+)?(?:[eE][+-]?[0-9]+)?`)
	aSign     = regexp.MustCompile(`\A(?:\.\.|[()\[\],;:.=+\-*/^])`)
	theWords  = []string{"atan", "connect", "connector", "cos", "der", "do", "end", "exp", "flow", "for", "in", "log", "model", "param", "part", "sin", "sqrt", "start", "time", "unit", "var"}
	theSigns  = []string{"..", "(", ")", "[", "]", ",", ";", ":", ".", "=", "+", "-", "*", "/", "^"}
	theBlanks = []string{" ", "\t", "\n", "\r"}
)

// answer is all that Lex answers.
type answer struct {
	tokens []api.Token
	err    api.Errno
	at     int
}

func lexed(s string) answer {
	tokens, err, at := lex.Lex(s)
	return answer{tokens, err, at}
}

func failed(err api.Errno, at int) answer { return answer{nil, err, at} }

// wanted goes through a text by the patterns.
func wanted(s string) answer {
	if len(s) > 20000 {
		return failed(api.ErrLong, 0)
	}
	var tokens []api.Token
	at := len(between.FindString(s))
	for at < len(s) {
		if len(tokens) == 4000 {
			return failed(api.ErrLong, at)
		}
		token, length, err := wantedToken(s[at:])
		if err != api.OK {
			return failed(err, at)
		}
		token.At = at
		tokens = append(tokens, token)
		at += length
		at += len(between.FindString(s[at:]))
	}
	return answer{append(tokens, api.Token{Kind: api.KEnd, At: len(s)}), api.OK, 0}
}

func wantedToken(s string) (api.Token, int, api.Errno) {
	name, number, sign := aName.FindString(s), aNumber.FindString(s), aSign.FindString(s)
	switch {
	case len(name) > 24:
		return api.Token{}, 0, api.ErrLong
	case slices.Contains(theWords, name):
		return api.Token{Kind: api.KWord, S: name}, len(name), api.OK
	case name != "":
		return api.Token{Kind: api.KName, S: name}, len(name), api.OK
	case number != "":
		n, err := rat.Read(number)
		return api.Token{Kind: api.KNumber, Num: n}, len(number), err
	case sign != "":
		return api.Token{Kind: api.KSign, S: sign}, len(sign), api.OK
	}
	return api.Token{}, 0, api.ErrByte
}

func same(a, b answer) bool {
	return slices.Equal(a.tokens, b.tokens) && a.err == b.err && a.at == b.at
}

// short keeps a failure's report to what can be read.
func short(s string) string {
	if len(s) > 200 {
		return s[:100] + " ... " + s[len(s)-100:]
	}
	return s
}

func check(t *testing.T, s string, want answer) {
	t.Helper()
	if got := lexed(s); !same(got, want) {
		t.Errorf("Lex(%q) of %d bytes: %d tokens, %d, %d; wanted are %d, %d, %d; the first: %v, wanted %v",
			short(s), len(s), len(got.tokens), got.err, got.at, len(want.tokens), want.err, want.at,
			got.tokens[:min(10, len(got.tokens))], want.tokens[:min(10, len(want.tokens))])
	}
}

// checkBoth asks besides whether the patterns are as by hand.
func checkBoth(t *testing.T, s string, want answer) {
	t.Helper()
	check(t, s, want)
	if by := wanted(s); !same(by, want) {
		t.Errorf("the patterns: %q: %v; by hand: %v", short(s), by, want)
	}
}

func checkByPatterns(t *testing.T, s string) {
	t.Helper()
	check(t, s, wanted(s))
}
