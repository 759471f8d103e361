package rat

import (
	"strconv"

	"orrery/api"
)

// How many digits a text may have, noughts ahead counted: on each side of the point, and behind the `e`.
const (
	maxDigits         = 40
	maxExponentDigits = 2
)

// Read is the number that a text tells in decimal digits.
func Read(s string) (api.Rat, api.Errno) {
	whole, s := leading(s, maxDigits)
	fraction, s, isFraction := readFraction(s)
	exponent, s, isExponent := readExponent(s)
	if whole == "" || !isFraction || !isExponent || s != "" {
		return api.Rat{}, api.ErrNumber
	}
	return decimal([]byte(whole+fraction), exponent-len(fraction))
}

// Print is N, or N / D.
func Print(a api.Rat) string {
	switch {
	case !Right(a):
		return ""
	case a.D == 1:
		return strconv.FormatInt(a.N, 10)
	}
	return strconv.FormatInt(a.N, 10) + "/" + strconv.FormatInt(a.D, 10)
}

// leading parts s behind its first digits, of which it takes no more than limit.
func leading(s string, limit int) (digits, rest string) {
	n := 0
	for n < len(s) && n < limit && s[n] >= '0' && s[n] <= '9' {
		n++
	}
	return s[:n], s[n:]
}

// readFraction takes a point and its digits, if there is one; it is not ok, if these lack.
func readFraction(s string) (digits, rest string, ok bool) {
	if s == "" || s[0] != '.' {
		return "", s, true
	}
	digits, rest = leading(s[1:], maxDigits)
	return digits, rest, digits != ""
}

// readExponent takes what begins with `e`, if something does; it is not ok, if digits lack.
func readExponent(s string) (exponent int, rest string, ok bool) {
	if s == "" || s[0] != 'e' && s[0] != 'E' {
		return 0, s, true
	}
	s = s[1:]
	neg := s != "" && s[0] == '-'
	if neg || s != "" && s[0] == '+' {
		s = s[1:]
	}
	digits, rest := leading(s, maxExponentDigits)
	for _, d := range []byte(digits) {
		exponent = 10*exponent + int(d-'0')
	}
	if neg {
		exponent = -exponent
	}
	return exponent, rest, digits != ""
}

// decimal is what digits tell, times 10 to the power exponent. The digits themselves are divided, as they may be many more than what is left of them.
func decimal(digits []byte, exponent int) (api.Rat, api.Errno) {
	twos := divideOut(digits, 2, -exponent)
	fives := divideOut(digits, 5, -exponent)
	n, err := strconv.ParseInt(string(digits), 10, 64)
	if err != nil {
		return api.Rat{}, api.ErrOver
	}
	return made(false, grown(wide{lo: amount(n)}, 10, exponent), grown(grown(wide{lo: 1}, 2, twos), 5, fives))
}

// divideOut divides digits by 2, or by 5, as long as no rest is left, at most n times, and answers how many times are left.
func divideOut(digits []byte, by byte, n int) int {
	for n > 0 && (digits[len(digits)-1]-'0')%by == 0 { // 10 leaves no rest: the last digit tells
		rest := byte(0)
		for i, d := range digits {
			value := 10*rest + d - '0'
			digits[i] = '0' + value/by
			rest = value % by
		}
		n--
	}
	return n
}
