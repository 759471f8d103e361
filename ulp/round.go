package ulp

import (
	"math/bits"

	"orrery/api"
)

// side is where an amount goes that is no float: seen from 0, so that the sign plays no part any more.
type side int

const (
	inward side = iota
	nearest
	outward
)

const (
	wordBits = 64
	keptBits = fractionBits + 1
	half     = uint64(1) << (wordBits - 1)

	// Beyond this exponent, to either side, all amounts are rounded alike.
	farExponent = 4096
)

// Round rounds M 2^E, or the negative of that, to a float.
func Round(p api.Parts, dir int) float64 {
	if p.M == 0 {
		return 0
	}
	p.E = min(max(p.E, -farExponent), farExponent) // no sum of exponents leaves an int now
	b := roundAmount(normal(p), sideOf(dir, p.Neg))
	if p.Neg {
		b |= signBit
	}
	return withoutSignOfZero(b)
}

// sideOf asks for dir's sign alone: the least int has no negative.
func sideOf(dir int, neg bool) side {
	switch {
	case dir == 0:
		return nearest
	case (dir > 0) != neg:
		return outward
	}
	return inward
}

// normal moves M up until its first bit is the word's.
func normal(p api.Parts) api.Parts {
	n := bits.LeadingZeros64(p.M)
	p.M <<= n
	p.E -= n
	return p
}

// roundAmount answers the bits of the float that a normal amount is rounded to.
func roundAmount(p api.Parts, s side) uint64 {
	drop := max(wordBits-keptBits, leastExponent-p.E)
	e := p.E + drop
	if e > greatestExponent {
		return boundOf(s)
	}
	kept, rest := cut(p.M, drop)
	if goesOut(kept, rest, s) {
		kept++
	}
	// The hidden bit counts one up in the exponent, and so does what is carried out of 53 bits, up to +Inf.
	return uint64(e-leastExponent)<<fractionBits + kept
}

// boundOf is where amounts of 2^1024 or more go.
func boundOf(s side) uint64 {
	if s == inward {
		return maxBits
	}
	return infinityBits
}

// cut takes the last bits off m: rest is what they are of a whole, in parts of 2^64.
func cut(m uint64, drop int) (kept, rest uint64) {
	if drop > wordBits { // less than half is left, but not nothing
		return 0, 1
	}
	return m >> drop, m << (wordBits - drop)
}

func goesOut(kept, rest uint64, s side) bool {
	switch s {
	case inward:
		return false
	case outward:
		return rest != 0
	}
	return rest > half || rest == half && kept&1 == 1
}
