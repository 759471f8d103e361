package lex

import "strings"

const wordsOfLanguage = "atan connect connector cos der do end exp flow for in log model param part sin sqrt start time unit var"

// Word tells whether a name is a word of the language.
func Word(s string) bool { return wordTeller()(s) }

// wordTeller tells words from other names. The words are laid out once, for as many names as there are.
func wordTeller() func(s string) bool {
	words := map[string]struct{}{}
	for _, word := range strings.Fields(wordsOfLanguage) {
		words[word] = struct{}{}
	}
	return func(s string) bool {
		_, ok := words[s]
		return ok
	}
}
