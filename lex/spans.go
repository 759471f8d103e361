package lex

import "strings"

const (
	blanks     = " \t\n\r"
	comment    = "//"
	signs      = "()[],;:.=+-*/^"
	doubleSign = ".." // the only one of two bytes
)

func isBlank(c byte) bool  { return strings.IndexByte(blanks, c) >= 0 }
func isSign(c byte) bool   { return strings.IndexByte(signs, c) >= 0 }
func isDigit(c byte) bool  { return '0' <= c && c <= '9' }
func isLetter(c byte) bool { return 'A' <= c && c <= 'Z' || 'a' <= c && c <= 'z' }
func inName(c byte) bool   { return isLetter(c) || isDigit(c) || c == '_' }
func inLine(c byte) bool   { return c != '\n' }

// span is how many bytes s begins with of which goesOn is true.
func span(s string, goesOn func(c byte) bool) int {
	n := 0
	for n < len(s) && goesOn(s[n]) {
		n++
	}
	return n
}

// gap is how long the blanks and comments are that s begins with.
func gap(s string) int {
	n := span(s, isBlank)
	for strings.HasPrefix(s[n:], comment) {
		n += span(s[n:], inLine)
		n += span(s[n:], isBlank)
	}
	return n
}

func nameLength(s string) int { return span(s, inName) }

func signLength(s string) int {
	if strings.HasPrefix(s, doubleSign) {
		return len(doubleSign)
	}
	return 1
}

func numberLength(s string) int {
	n := span(s, isDigit)
	n += fractionLength(s[n:])
	return n + exponentLength(s[n:])
}

// fractionLength is 0, if s begins with no point, or with one that no digit follows: that is a sign.
func fractionLength(s string) int {
	if !strings.HasPrefix(s, ".") {
		return 0
	}
	return lengthWithDigits(s, 1)
}

// exponentLength is 0, if s begins with no `e`, or with one that no digit follows: that begins a name.
func exponentLength(s string) int {
	if !strings.HasPrefix(s, "e") && !strings.HasPrefix(s, "E") {
		return 0
	}
	if strings.HasPrefix(s[1:], "+") || strings.HasPrefix(s[1:], "-") {
		return lengthWithDigits(s, 2)
	}
	return lengthWithDigits(s, 1)
}

// lengthWithDigits is n, and the digits from there on; 0, if there are none.
func lengthWithDigits(s string, n int) int {
	digits := span(s[n:], isDigit)
	if digits == 0 {
		return 0
	}
	return n + digits
}
