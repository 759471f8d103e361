package lex

import (
	"orrery/api"
	"orrery/rat"
)

// sortOfToken is one of names, numbers and signs. No byte begins tokens of two sorts.
type sortOfToken struct {
	begins func(c byte) bool
	length func(s string) int // of the longest one that s begins with
	made   func(text string) (api.Token, api.Errno)
}

func sortsOfTokens() []sortOfToken {
	isWord := wordTeller()
	name := func(text string) (api.Token, api.Errno) {
		switch {
		case len(text) > api.MaxName:
			return api.Token{}, api.ErrLong
		case isWord(text):
			return api.Token{Kind: api.KWord, S: text}, api.OK
		}
		return api.Token{Kind: api.KName, S: text}, api.OK
	}
	return []sortOfToken{
		{isLetter, nameLength, name},
		{isDigit, numberLength, number},
		{isSign, signLength, sign},
	}
}

func number(text string) (api.Token, api.Errno) {
	n, err := rat.Read(text)
	if err != api.OK {
		return api.Token{}, err
	}
	return api.Token{Kind: api.KNumber, Num: n}, api.OK
}

func sign(text string) (api.Token, api.Errno) {
	return api.Token{Kind: api.KSign, S: text}, api.OK
}
