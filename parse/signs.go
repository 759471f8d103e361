package parse

import "orrery/api"

// functions are the words of the kinds from TSqrt on.
var functions = [...]string{"sqrt", "exp", "log", "sin", "cos", "atan"}

func functionWord(kind int) string { return functions[kind-api.TSqrt] }

// functionOf is the kind of a function's word; 0 of other texts.
func functionOf(word string) int {
	for i, function := range functions {
		if function == word {
			return api.TSqrt + i
		}
	}
	return 0
}

// signOf is the sign of an operator between two.
func signOf(kind int) string {
	switch kind {
	case api.EAdd:
		return "+"
	case api.ESub:
		return "-"
	case api.EMul, api.UMul:
		return "*"
	}
	return "/"
}
