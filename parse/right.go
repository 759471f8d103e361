package parse

import (
	"orrery/api"
	"orrery/lex"
	"orrery/rat"
)

// mustBeFile panics with a stop, if a tree is no file's.
func mustBeFile(t api.Tree) {
	if t.Kind != api.DFile {
		panic(stop{err: api.ErrTree})
	}
	mustBeRight(t)
}

// mustBeRight panics with a stop, if a node, or one within it, is not as its kind asks.
func mustBeRight(t api.Tree) {
	if !fieldsRight(t) || !kidsRight(t) {
		panic(stop{err: api.ErrTree})
	}
	for _, kid := range t.Kids {
		mustBeRight(kid)
	}
}

// fieldsRight tells whether a node's fields are as its kind asks, but for Kids: those that it names are taken off, and all others must be zero.
func fieldsRight(t api.Tree) bool {
	right := true
	switch t.Kind {
	case api.DUnit, api.IParam, api.IMod, api.EPart, api.UName:
		right = isName(t.Name)
		t.Name = ""
	case api.DClass:
		right = isName(t.Name) && (t.N == model || t.N == connector)
		t.Name, t.N = "", 0
	case api.IVar:
		right = isName(t.Name) && isCount(t.N)
		t.Name, t.N, t.Flag = "", 0, false
	case api.IPart:
		right = isName(t.Name) && isCount(t.N) && isName(t.Alias)
		t.Name, t.N, t.Alias = "", 0, ""
	case api.IFor:
		right = isName(t.Name) && isCount(t.N) && isCount(t.M)
		t.Name, t.N, t.M = "", 0, 0
	case api.ENum:
		right = isNumber(t.Num)
		t.Num = api.Rat{}
	case api.ECall:
		right = api.TSqrt <= t.N && t.N <= api.TAtan
		t.N = 0
	case api.EPow:
		right = -api.MaxPower <= t.N && t.N <= api.MaxPower
		t.N = 0
	case api.UPow:
		right = isExponent(t.Num)
		t.Num = api.Rat{}
	}
	return right && noFields(t)
}

func noFields(t api.Tree) bool {
	return t.Name == "" && t.Alias == "" && t.N == 0 && t.M == 0 && !t.Flag && t.Num == api.Rat{}
}

// isName asks lex, which tells names from words, and from longer ones.
func isName(s string) bool {
	tokens, err, _ := lex.Lex(s)
	return err == api.OK && tokens[0].Kind == api.KName && tokens[0].S == s
}

func isCount(n int) bool { return 0 <= n && n <= maxCount }

// isNumber tells whether a number can be written in digits, with at most 18 behind the point.
func isNumber(n api.Rat) bool { return rat.Right(n) && n.N >= 0 && 1000000000000000000%n.D == 0 }

func isExponent(n api.Rat) bool {
	return rat.Right(n) && -api.MaxPower <= n.N && n.N <= api.MaxPower && n.D <= api.MaxPower
}
