// Package ulp is layer 1: numbers of 64 bits, rounded to a side that is chosen.
//
// Everything is worked out in whole numbers, so that nothing hangs on how a machine rounds.
package ulp

import (
	"math"

	"orrery/api"
)

// How a float stands in its 64 bits: the sign, 11 bits of exponent, 52 bits of fraction.
const (
	fractionBits = 52
	hiddenBit    = uint64(1) << fractionBits // the first bit of 53, which is not written
	exponentMask = 0x7FF
	signBit      = uint64(1) << 63
	infinityBits = uint64(exponentMask) << fractionBits
	maxBits      = infinityBits - 1
	leastBits    = uint64(1)

	leastExponent    = -1074 // of the last of 53 bits
	greatestExponent = 971
)

// Next is the least float above x.
func Next(x float64) float64 {
	switch {
	case x == 0: // both zeros have the same neighbour, though not the same bits
		return math.Float64frombits(leastBits)
	case isFinite(x) && x > 0:
		return math.Float64frombits(math.Float64bits(x) + 1)
	case x < 0: // of -Inf this is -MAX: the order of the bits goes on there
		return withoutSignOfZero(math.Float64bits(x) - 1)
	}
	return x
}

// Prev is the greatest float below x.
func Prev(x float64) float64 {
	return withoutSignOfZero(math.Float64bits(Next(-x)) ^ signBit)
}

// Split takes a finite float apart into M 2^E and its sign.
func Split(x float64) (api.Parts, bool) {
	if !isFinite(x) {
		return api.Parts{}, false
	}
	if x == 0 {
		return api.Parts{}, true
	}
	b := math.Float64bits(x)
	p := api.Parts{Neg: b&signBit != 0, M: b & (hiddenBit - 1), E: leastExponent}
	if exponent := int(b >> fractionBits & exponentMask); exponent > 0 {
		p.M |= hiddenBit
		p.E += exponent - 1 // numbers below 2^-1022 share the exponent of the first ones above
	}
	return p, true
}

func isFinite(x float64) bool {
	return math.Float64bits(x)&infinityBits != infinityBits
}

// withoutSignOfZero keeps -0 from being answered.
func withoutSignOfZero(b uint64) float64 {
	if b == signBit {
		b = 0
	}
	return math.Float64frombits(b)
}
